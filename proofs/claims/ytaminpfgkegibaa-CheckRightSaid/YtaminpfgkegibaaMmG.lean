/- mem: SetBytes. Conditions: lengths. -/
import Derived.Test.YtaminpfgkegibaaMmF
import Derived.Test.YtaminpfgkegibaaRegT
namespace Go.Proofs.Ytaminpfgkegibaa
set_option linter.unusedVariables false
set_option linter.unusedSimpArgs false
open Go.RowKit
theorem shl255 (s : Nat) : IntKind.u64.wrap (255 * 2 ^ s) = U64 (255#64 <<< s) := shlU64 255#64 s
attribute [local go_sem] shl255 shlU64 andNotU64 orU64 u8_u64 wrapU64
set_option maxHeartbeats 400000
set_option maxRecDepth 100000
theorem sb_reg (Q : Exit → Act → World → Prop) (a0 : Act) (w : World) (g q N c k j s : Nat) (x : BitVec 8) (y : BitVec 64) (hb : Bk w g 110 #[.slice (some ⟨q, 0, none⟩) N c]) (hq : q < w.heap.size) (hy : w.cell? ⟨q, j, none⟩ = some (.int .u64 (U64 y))) (d3 : (k : Int).tdiv 8 = (j : Int)) (p1 : (0 : Int) ≤ (j : Int)) (p2 : (j : Int) < (N : Int)) (p3 : (0 : Int) ≤ (s : Int)) (p4 : (s : Int) < 64) (p5 : (j : Int) ≤ 1000000) (hsz : a0.tmps.size = 56) (sl0 : a0.tmps.getD 0 undef = .pointer (some ⟨g, 0, none⟩)) (sl8 : a0.tmps.getD 8 undef = .int .u8 (U8 x)) (sl9 : a0.tmps.getD 9 undef = .int .i64 k) (sl10 : a0.tmps.getD 10 undef = .int .i64 s)
    (fin : ∀ (vals : Nat → Value) (w1 : World), Below w.heap.size w w1 → (IsV (.int .u64 (U64 ((y &&& ~~~(255#64 <<< s)) ||| (x.setWidth 64 <<< s))))) (vals 21) w1 → (IsV (.pointer (some ⟨q, j, none⟩))) (vals 22) w1 → wpList Try.prog #[{ dst := none, op := Go.Op.store 57 (Go.Operand.tmp 54) (Go.Operand.tmp 53), type := 0, pos := "", after := #[], guard := none }] Q [{ dst := none, op := Go.Op.store 57 (Go.Operand.tmp 54) (Go.Operand.tmp 53), type := 0, pos := "", after := #[], guard := none }] (putD vals [32, 33, 34, 35, 36, 37, 38, 39, 40, 41, 42, 43, 44, 45, 46, 47, 48, 49, 50, 51, 52, 53, 54] 0 a0) w1) :
    (Code.region 8 (regIn Try.f93 8) true).wp Try.prog Q a0 w := by
  refine region_by_tail (m := 23) (G := fun w w1 => Below w.heap.size w w1) [IsV (.pointer (some ⟨g, 0, none⟩)),
    IsV (.pointer (some ⟨g, 0, none⟩)),
    IsV (.pointer (some ⟨g, 0, none⟩)),
    IsV (.slice (some ⟨q, 0, none⟩) N c),
    IsV (.int .i64 k),
    IsV (.int .i64 j),
    IsV (.pointer (some ⟨g, 0, none⟩)),
    IsV (.pointer (some ⟨g, 0, none⟩)),
    IsV (.pointer (some ⟨g, 0, none⟩)),
    IsV (.slice (some ⟨q, 0, none⟩) N c),
    IsV (.int .i64 k),
    IsV (.int .i64 j),
    IsV (.pointer (some ⟨q, j, none⟩)),
    IsV (.int .u64 (U64 y)),
    IsV (.int .i64 s),
    IsV (.int .u64 (U64 (255#64 <<< s))),
    IsV (.int .u64 (U64 (y &&& ~~~(255#64 <<< s)))),
    IsV (.int .u8 (U8 x)),
    IsV (.int .u64 (U64 (x.setWidth 64))),
    IsV (.int .i64 s),
    IsV (.int .u64 (U64 (x.setWidth 64 <<< s))),
    IsV (.int .u64 (U64 ((y &&& ~~~(255#64 <<< s)) ||| (x.setWidth 64 <<< s)))),
    IsV (.pointer (some ⟨q, j, none⟩))]
    [32, 33, 34, 35, 36, 37, 38, 39, 40, 41, 42, 43, 44, 45, 46, 47, 48, 49, 50, 51, 52, 53, 54] (by kernel_rfl) (Gw.drew _) Gw.trans (by rw [hsz]; kernel_rfl) (by kernel_rfl) ?_ ?_ ?_
  · intro f hf
    simp only [List.mem_cons, List.not_mem_nil, or_false] at hf
    rcases hf with rfl | rfl | rfl | rfl | rfl | rfl | rfl | rfl | rfl | rfl | rfl | rfl | rfl | rfl | rfl | rfl | rfl | rfl | rfl | rfl | rfl | rfl | rfl <;> intro v a b h g <;> first | exact IsV.mono h
  · refine ⟨?_, ?_, ?_, ?_, ?_, ?_, ?_, ?_, ?_, ?_, ?_, ?_, ?_, ?_, ?_, ?_, ?_, ?_, ?_, ?_, ?_, ?_, ?_, trivial⟩
    · exact owes_mv 0 (by kernel_rfl) (by kernel_rfl) (by kernel_rfl) sl0 (fun _ => rfl)
    · refine owes_v (Go.Op.nilCheck (Go.Operand.tmp 32)) 0 [0] (by kernel_rfl) (by kernel_rfl) (by kernel_rfl) rfl fun vals w1 ρ hG hF hρ hcst hfun => ?_
      have e32 : ρ (.tmp 32) = .pointer (some ⟨g, 0, none⟩) := ((hρ 32).trans (slotJ [0] (by rw [hsz]; decide) (by kernel_rfl))).trans (hF 0 (by decide))
      clear hρ hF hcst hfun sl0 sl8 sl9 sl10 fin
      exact opv_val (by go_simp <;> rfl) ⟨gw_self _, rfl⟩
    · refine owes_v (Go.Op.fieldAddr 110 (Go.Operand.tmp 33) 0) 0 [1] (by kernel_rfl) (by kernel_rfl) (by kernel_rfl) rfl fun vals w1 ρ hG hF hρ hcst hfun => ?_
      have e33 : ρ (.tmp 33) = .pointer (some ⟨g, 0, none⟩) := ((hρ 33).trans (slotJ [1] (by rw [hsz]; decide) (by kernel_rfl))).trans (hF 1 (by decide))
      clear hρ hF hcst hfun sl0 sl8 sl9 sl10 fin
      exact opv_val (by go_simp <;> rfl) ⟨gw_self _, rfl⟩
    · refine owes_v (Go.Op.load 22 (Go.Operand.tmp 34)) 22 [2] (by kernel_rfl) (by kernel_rfl) (by kernel_rfl) rfl fun vals w1 ρ hG hF hρ hcst hfun => ?_
      have e34 : ρ (.tmp 34) = .pointer (some ⟨g, 0, none⟩) := ((hρ 34).trans (slotJ [2] (by rw [hsz]; decide) (by kernel_rfl))).trans (hF 2 (by decide))
      have c0 := (hb.below hG hb.lt).cell 0
      clear hρ hF hcst hfun sl0 sl8 sl9 sl10 fin
      exact opv_val (by go_simp <;> rfl) ⟨gw_self _, rfl⟩
    · exact owes_mv 9 (by kernel_rfl) (by kernel_rfl) (by kernel_rfl) sl9 (fun _ => rfl)
    · refine owes_v (Go.Op.binOp Go.BinOp.quo 3 (Go.Operand.tmp 36) (Go.Operand.const (Go.Value.int Go.IntKind.i64 8)) 3) 3 [4] (by kernel_rfl) (by kernel_rfl) (by kernel_rfl) rfl fun vals w1 ρ hG hF hρ hcst hfun => ?_
      have e36 : ρ (.tmp 36) = .int .i64 k := ((hρ 36).trans (slotJ [4] (by rw [hsz]; decide) (by kernel_rfl))).trans (hF 4 (by decide))
      have kw0 : IntKind.i64.wrap ((j : Int)) = (j : Int) := wrapIn (by omega) (by omega)
      clear hρ hF hfun sl0 sl8 sl9 sl10 fin
      exact opv_val (by go_simp <;> rfl) ⟨gw_self _, rfl⟩
    · exact owes_mv 0 (by kernel_rfl) (by kernel_rfl) (by kernel_rfl) sl0 (fun _ => rfl)
    · refine owes_v (Go.Op.nilCheck (Go.Operand.tmp 38)) 0 [6] (by kernel_rfl) (by kernel_rfl) (by kernel_rfl) rfl fun vals w1 ρ hG hF hρ hcst hfun => ?_
      have e38 : ρ (.tmp 38) = .pointer (some ⟨g, 0, none⟩) := ((hρ 38).trans (slotJ [6] (by rw [hsz]; decide) (by kernel_rfl))).trans (hF 6 (by decide))
      clear hρ hF hcst hfun sl0 sl8 sl9 sl10 fin
      exact opv_val (by go_simp <;> rfl) ⟨gw_self _, rfl⟩
    · refine owes_v (Go.Op.fieldAddr 110 (Go.Operand.tmp 39) 0) 0 [7] (by kernel_rfl) (by kernel_rfl) (by kernel_rfl) rfl fun vals w1 ρ hG hF hρ hcst hfun => ?_
      have e39 : ρ (.tmp 39) = .pointer (some ⟨g, 0, none⟩) := ((hρ 39).trans (slotJ [7] (by rw [hsz]; decide) (by kernel_rfl))).trans (hF 7 (by decide))
      clear hρ hF hcst hfun sl0 sl8 sl9 sl10 fin
      exact opv_val (by go_simp <;> rfl) ⟨gw_self _, rfl⟩
    · refine owes_v (Go.Op.load 22 (Go.Operand.tmp 40)) 22 [8] (by kernel_rfl) (by kernel_rfl) (by kernel_rfl) rfl fun vals w1 ρ hG hF hρ hcst hfun => ?_
      have e40 : ρ (.tmp 40) = .pointer (some ⟨g, 0, none⟩) := ((hρ 40).trans (slotJ [8] (by rw [hsz]; decide) (by kernel_rfl))).trans (hF 8 (by decide))
      have c0 := (hb.below hG hb.lt).cell 0
      clear hρ hF hcst hfun sl0 sl8 sl9 sl10 fin
      exact opv_val (by go_simp <;> rfl) ⟨gw_self _, rfl⟩
    · exact owes_mv 9 (by kernel_rfl) (by kernel_rfl) (by kernel_rfl) sl9 (fun _ => rfl)
    · refine owes_v (Go.Op.binOp Go.BinOp.quo 3 (Go.Operand.tmp 42) (Go.Operand.const (Go.Value.int Go.IntKind.i64 8)) 3) 3 [10] (by kernel_rfl) (by kernel_rfl) (by kernel_rfl) rfl fun vals w1 ρ hG hF hρ hcst hfun => ?_
      have e42 : ρ (.tmp 42) = .int .i64 k := ((hρ 42).trans (slotJ [10] (by rw [hsz]; decide) (by kernel_rfl))).trans (hF 10 (by decide))
      have kw0 : IntKind.i64.wrap ((j : Int)) = (j : Int) := wrapIn (by omega) (by omega)
      clear hρ hF hfun sl0 sl8 sl9 sl10 fin
      exact opv_val (by go_simp <;> rfl) ⟨gw_self _, rfl⟩
    · refine owes_v (Go.Op.indexAddr 22 (Go.Operand.tmp 41) (Go.Operand.tmp 43)) 0 [9, 11] (by kernel_rfl) (by kernel_rfl) (by kernel_rfl) rfl fun vals w1 ρ hG hF hρ hcst hfun => ?_
      have e41 : ρ (.tmp 41) = .slice (some ⟨q, 0, none⟩) N c := ((hρ 41).trans (slotJ [9, 11] (by rw [hsz]; decide) (by kernel_rfl))).trans (hF 9 (by decide))
      have e43 : ρ (.tmp 43) = .int .i64 j := ((hρ 43).trans (slotJ [9, 11] (by rw [hsz]; decide) (by kernel_rfl))).trans (hF 11 (by decide))
      clear hρ hF hcst hfun sl0 sl8 sl9 sl10 fin
      exact opv_val (by go_simp <;> rfl) ⟨gw_self _, rfl⟩
    · refine owes_v (Go.Op.load 57 (Go.Operand.tmp 44)) 57 [12] (by kernel_rfl) (by kernel_rfl) (by kernel_rfl) rfl fun vals w1 ρ hG hF hρ hcst hfun => ?_
      have e44 : ρ (.tmp 44) = .pointer (some ⟨q, j, none⟩) := ((hρ 44).trans (slotJ [12] (by rw [hsz]; decide) (by kernel_rfl))).trans (hF 12 (by decide))
      have c0 := (hG.cell (p := ⟨q, j, none⟩) hq).trans hy
      clear hρ hF hcst hfun sl0 sl8 sl9 sl10 fin
      exact opv_val (by go_simp <;> rfl) ⟨gw_self _, rfl⟩
    · exact owes_mv 10 (by kernel_rfl) (by kernel_rfl) (by kernel_rfl) sl10 (fun _ => rfl)
    · refine owes_v (Go.Op.binOp Go.BinOp.shl 57 (Go.Operand.const (Go.Value.int Go.IntKind.u64 255)) (Go.Operand.tmp 46) 3) 57 [14] (by kernel_rfl) (by kernel_rfl) (by kernel_rfl) rfl fun vals w1 ρ hG hF hρ hcst hfun => ?_
      have e46 : ρ (.tmp 46) = .int .i64 s := ((hρ 46).trans (slotJ [14] (by rw [hsz]; decide) (by kernel_rfl))).trans (hF 14 (by decide))
      clear hρ hF hfun sl0 sl8 sl9 sl10 fin
      exact opv_val (by go_simp <;> rfl) ⟨gw_self _, rfl⟩
    · refine owes_v (Go.Op.binOp Go.BinOp.andNot 57 (Go.Operand.tmp 45) (Go.Operand.tmp 47) 57) 57 [13, 15] (by kernel_rfl) (by kernel_rfl) (by kernel_rfl) rfl fun vals w1 ρ hG hF hρ hcst hfun => ?_
      have e45 : ρ (.tmp 45) = .int .u64 (U64 y) := ((hρ 45).trans (slotJ [13, 15] (by rw [hsz]; decide) (by kernel_rfl))).trans (hF 13 (by decide))
      have e47 : ρ (.tmp 47) = .int .u64 (U64 (255#64 <<< s)) := ((hρ 47).trans (slotJ [13, 15] (by rw [hsz]; decide) (by kernel_rfl))).trans (hF 15 (by decide))
      clear hρ hF hcst hfun sl0 sl8 sl9 sl10 fin
      exact opv_val (by go_simp <;> rfl) ⟨gw_self _, rfl⟩
    · exact owes_mv 8 (by kernel_rfl) (by kernel_rfl) (by kernel_rfl) sl8 (fun _ => rfl)
    · refine owes_v (Go.Op.convert 5 57 (Go.Operand.tmp 49)) 57 [17] (by kernel_rfl) (by kernel_rfl) (by kernel_rfl) rfl fun vals w1 ρ hG hF hρ hcst hfun => ?_
      have e49 : ρ (.tmp 49) = .int .u8 (U8 x) := ((hρ 49).trans (slotJ [17] (by rw [hsz]; decide) (by kernel_rfl))).trans (hF 17 (by decide))
      clear hρ hF hcst hfun sl0 sl8 sl9 sl10 fin
      exact opv_val (by go_simp <;> rfl) ⟨gw_self _, rfl⟩
    · exact owes_mv 10 (by kernel_rfl) (by kernel_rfl) (by kernel_rfl) sl10 (fun _ => rfl)
    · refine owes_v (Go.Op.binOp Go.BinOp.shl 57 (Go.Operand.tmp 50) (Go.Operand.tmp 51) 3) 57 [18, 19] (by kernel_rfl) (by kernel_rfl) (by kernel_rfl) rfl fun vals w1 ρ hG hF hρ hcst hfun => ?_
      have e50 : ρ (.tmp 50) = .int .u64 (U64 (x.setWidth 64)) := ((hρ 50).trans (slotJ [18, 19] (by rw [hsz]; decide) (by kernel_rfl))).trans (hF 18 (by decide))
      have e51 : ρ (.tmp 51) = .int .i64 s := ((hρ 51).trans (slotJ [18, 19] (by rw [hsz]; decide) (by kernel_rfl))).trans (hF 19 (by decide))
      clear hρ hF hcst hfun sl0 sl8 sl9 sl10 fin
      exact opv_val (by go_simp <;> rfl) ⟨gw_self _, rfl⟩
    · refine owes_v (Go.Op.binOp Go.BinOp.or 57 (Go.Operand.tmp 48) (Go.Operand.tmp 52) 57) 57 [16, 20] (by kernel_rfl) (by kernel_rfl) (by kernel_rfl) rfl fun vals w1 ρ hG hF hρ hcst hfun => ?_
      have e48 : ρ (.tmp 48) = .int .u64 (U64 (y &&& ~~~(255#64 <<< s))) := ((hρ 48).trans (slotJ [16, 20] (by rw [hsz]; decide) (by kernel_rfl))).trans (hF 16 (by decide))
      have e52 : ρ (.tmp 52) = .int .u64 (U64 (x.setWidth 64 <<< s)) := ((hρ 52).trans (slotJ [16, 20] (by rw [hsz]; decide) (by kernel_rfl))).trans (hF 20 (by decide))
      clear hρ hF hcst hfun sl0 sl8 sl9 sl10 fin
      exact opv_val (by go_simp <;> rfl) ⟨gw_self _, rfl⟩
    · refine owes_v (Go.Op.indexAddr 22 (Go.Operand.tmp 35) (Go.Operand.tmp 37)) 0 [3, 5] (by kernel_rfl) (by kernel_rfl) (by kernel_rfl) rfl fun vals w1 ρ hG hF hρ hcst hfun => ?_
      have e35 : ρ (.tmp 35) = .slice (some ⟨q, 0, none⟩) N c := ((hρ 35).trans (slotJ [3, 5] (by rw [hsz]; decide) (by kernel_rfl))).trans (hF 3 (by decide))
      have e37 : ρ (.tmp 37) = .int .i64 j := ((hρ 37).trans (slotJ [3, 5] (by rw [hsz]; decide) (by kernel_rfl))).trans (hF 5 (by decide))
      clear hρ hF hcst hfun sl0 sl8 sl9 sl10 fin
      exact opv_val (by go_simp <;> rfl) ⟨gw_self _, rfl⟩
  · intro vals w1 hG hF
    exact last_list (by kernel_rfl) (by kernel_rfl) (by kernel_rfl) (fin vals w1 hG (hF 21 (by decide +kernel)) (hF 22 (by decide +kernel)))
theorem setBytes_in (w : World) (B g : Nat) (v : Value) (ws : List (BitVec 64)) (a : Nat) (A : Option Addr) (cb : Nat) (bs : List (BitVec 8)) (hi : a + bs.length ≤ 8 * ws.length) (hl : ws.length ≤ 100000) (h : MemAt w B g v ws) (hr : Rd b8 w w.heap.size A bs) (hap : 0 < bs.length → ∀ x, A = some x → some x.block ≠ v.ownBlock) :
    Calls Try.prog 93 #[.pointer (some ⟨g, 0, none⟩), .int .i64 a, .slice A bs.length cb] w fun e w' => e = .returned (.int .i64 0) ∧ MemAt w' B g v (putK ws a bs bs.length) ∧ w.grownBy w' v.ownBlock := by
  have HL := Lib.hid (len_c w B g v ws h)
  have HI := Lib.hid (insideM_c w ((8 * ws.length : Nat) : Int) (a : Int) bs.length (by omega) (by omega) (by omega) (by omega) (by omega) (by omega))
  rw [show inM ((8 * ws.length : Nat) : Int) (a : Int) bs.length = true from by unfold inM; simp; omega] at HI
  obtain ⟨A1, c, e, hc⟩ := h.row.form
  subst e
  have HM := Lib.hid h
  have HR := Lib.hid hr
  have HAP := Lib.hid hap
  obtain ⟨N, hN⟩ : ∃ N, N = ws.length := ⟨_, rfl⟩
  obtain ⟨M, hM⟩ : ∃ M, M = 8 * ws.length := ⟨_, rfl⟩
  obtain ⟨n, hn⟩ : ∃ n, n = bs.length := ⟨_, rfl⟩
  rw [← hM] at HI
  rw [← hN] at HL HM HAP ⊢
  rw [← hn] at HI ⊢
  have q1 : (N : Int) * 8 = (M : Int) := by omega
  have HAN := Lib.hid hi
  have HNN := Lib.hid hN
  have HBN := Lib.hid hn
  have q2 : (M : Int) ≤ 800000 := by omega
  have q3 : (n : Int) ≤ 800000 := by omega
  clear h hc hM hN hi hl hr hap hn
  go_enter Try.func93, Try.ntmps93
  go_wp2_with fail
  refine Calls.mono HL.out ?_
  rintro e w1 ⟨rfl, rfl⟩
  go_wp2_with fail
  refine Calls.mono HI.out ?_
  rintro e w2 ⟨rfl, rfl⟩
  go_wp2_with fail
  go_loopw [21] (fun i wr => ∃ k : Nat, k ≤ n ∧ i = .int .i64 k ∧ MemAt wr B g (.slice A1 N c) (putK ws a bs k) ∧ w2.grownBy wr (Value.slice A1 N c).ownBlock) (fun i _ => n - (intOf i).toNat)
  case atStart => exact ⟨0, by omega, rfl, HM.out, grown_refl _ _⟩
  case round =>
    obtain ⟨k, hkl, rfl, hm, hg⟩ := hrel
    by_cases hlt : k < n
    · have p1 : (0 : Int) ≤ (k : Int) := by omega
      have p2 : (k : Int) < (n : Int) := by omega
      have hin := HAN.out
      have hNo := HNN.out
      have hBo := HBN.out
      obtain ⟨q, rfl⟩ : ∃ q, A1 = some ⟨q, 0, none⟩ := by
        rcases hm.row.2 with ⟨e, hn⟩ | ⟨q, _, _, e, _⟩
        · have hn' : (putK ws a bs k).length = 0 := hn
          rw [putK_len] at hn'
          omega
        · injection e with e
          exact ⟨q, e⟩
      obtain ⟨ad, rfl, hadb, hcl⟩ := (HR.out.grown hg (HAP.out (by omega))) k (by omega)
      obtain ⟨x, hx⟩ : ∃ x, x = bs[k]'(by omega) := ⟨_, rfl⟩
      rw [← hx] at hcl
      unfold b8 at hcl
      obtain ⟨s, hs⟩ : ∃ s, s = a + k := ⟨_, rfl⟩
      obtain ⟨j, hj⟩ : ∃ j, j = s / 8 := ⟨_, rfl⟩
      obtain ⟨b, hb⟩ : ∃ b, b = s % 8 := ⟨_, rfl⟩
      obtain ⟨t, ht⟩ : ∃ t, t = 8 * b := ⟨_, rfl⟩
      have hjl : j < ws.length := by omega
      have hjp : j < (putK ws a bs k).length := by rw [putK_len]; exact hjl
      have hbk := hm.blk
      have hq := hm.row.ge
      have hfz := hm.row.free j
      have hcell := hm.row.cell hjp
      obtain ⟨y, hy⟩ : ∃ y, y = (putK ws a bs k)[j] := ⟨_, rfl⟩
      rw [← hy] at hcell
      unfold u64v at hcell
      have hput : putK ws a bs (k + 1) = (putK ws a bs k).set j ((y &&& ~~~(255#64 <<< t)) ||| (x.setWidth 64 <<< t)) := by
        show setB (putK ws a bs k) (a + k) (bs.getD k 0#8) = _
        unfold setB
        rw [← hs, ← hj, ← hb, ← ht, hy, hx, List.getD_eq_getElem?_getD, List.getElem?_eq_getElem hjp, List.getD_eq_getElem?_getD, List.getElem?_eq_getElem (by omega)]
        rfl
      have hrow := hm.row.set hjp ((y &&& ~~~(255#64 <<< t)) ||| (x.setWidth 64 <<< t))
      rw [← hput] at hrow
      have hne : q ≠ g := fun e => hm.ne (by rw [e]; rfl)
      have HS := Lib.hid (fun (W : World) (hW : Below wr.heap.size wr W) (u : Value) (hu : u = u64v ((y &&& ~~~(255#64 <<< t)) ||| (x.setWidth 64 <<< t))) => show MemAt (W.setCell ⟨q, j, none⟩ u) B g (.slice (some ⟨q, 0, none⟩) N c) (putK ws a bs (k + 1)) ∧ w2.grownBy (W.setCell ⟨q, j, none⟩ u) (some q) from by
        subst hu
        have r2 := (hm.row.below hW).set hjp ((y &&& ~~~(255#64 <<< t)) ||| (x.setWidth 64 <<< t))
        rw [← hput] at r2
        exact ⟨⟨(hm.blk.below hW hm.blk.lt).far (p := ⟨q, j, none⟩) hne.symm _, hm.ge, r2, hm.ne⟩, (hg.trans (grown_none hW _)).trans (grown_set W ⟨q, j, none⟩ _)⟩)
      have HFZ := Lib.hid (fun (W : World) (hW : Below wr.heap.size wr W) => (hm.row.below hW).free j)
      have HCL := Lib.hid (fun (W : World) (hW : Below wr.heap.size wr W) => show W.cell? ⟨q, j, none⟩ = some (.int .u64 (U64 y)) from by have h0 := (hm.row.below hW).cell hjp; rw [← hy] at h0; exact h0)
      have d0 : (a : Int) + (k : Int) = (s : Int) := by omega
      have d2 : (s : Int) % 8 = (b : Int) := by omega
      have d3 : (s : Int).tdiv 8 = (j : Int) := by rw [Int.tdiv_eq_ediv_of_nonneg (by omega)]; omega
      have d4 : (s : Int).tmod 8 = (b : Int) := by rw [← d2]; exact Int.tmod_eq_emod_of_nonneg (by omega)
      have d5 : (0 : Int) ≤ (s : Int) := by omega
      have d6 : (s : Int) ≤ 800000 := by omega
      have d7 : (b : Int) < 8 := by omega
      have d8 : (0 : Int) ≤ (b : Int) := by omega
      have d9 : (8 : Int) * (b : Int) = (t : Int) := by omega
      have HX := Lib.hid (And.intro (show (0 : Int) ≤ (j : Int) by omega) (And.intro (show (j : Int) < (N : Int) by omega) (And.intro (show (t : Int) < 64 by omega) (show (j : Int) ≤ 1000000 by omega))))
      have HC := Lib.hid hcell
      have HQ := Lib.hid hq.2
      have HK := Lib.hid hbk
      clear hj hb hs hin hNo hBo hadb hx hy ht hjl hjp hbk hq hfz hcell hput hrow hne hm
      go_wp2_with fail
      refine sb_reg _ _ _ g q N c s j t x y HK.out HQ.out HC.out d3 HX.out.1 HX.out.2.1 (by omega) HX.out.2.2.1 HX.out.2.2.2 rfl rfl rfl rfl rfl ?_
      intro vals w3 hG h53 h54
      unfold IsV at h53 h54
      simp only [putD, Act.put, List.setIfInBounds_toArray, List.set_cons_zero, List.set_cons_succ, h53, h54]
      have hS := HS.out w3 hG _ rfl
      have hf := HFZ.out w3 hG
      have hc := HCL.out w3 hG
      have HS3 := Lib.hid hS
      clear hS h53 h54 HK HQ HC HX HS HFZ HCL
      go_wp2_with fail
      go_roundw
      case rel => exact ⟨k + 1, by omega, by go_num, HS3.out.1, HS3.out.2⟩
      case measure => (first | (simp [intOf]; done) | (simp [intOf]; omega))
    · have hkk : k = n := by omega
      subst hkk
      have HF := Lib.hid (And.intro hm hg)
      clear hm hg
      go_wp2_with fail
      go_ret
      exact ⟨rfl, HF.out.1, HF.out.2⟩
end Go.Proofs.Ytaminpfgkegibaa
