/- mem: Bytes. Conditions: lengths. -/
import Derived.Test.YtaminpfgkegibaaMmD
namespace Go.Proofs.Ytaminpfgkegibaa
set_option linter.unusedVariables false
set_option linter.unusedSimpArgs false
open Go.RowKit
def byteAt (ws : List (BitVec 64)) (k : Nat) : BitVec 8 := ((ws.getD (k / 8) 0#64) >>> (8 * (k % 8))).setWidth 8
def bytesM (ws : List (BitVec 64)) (a n : Nat) : List (BitVec 8) := (List.range n).map fun i => byteAt ws (a + i)
def partB (xs : List (BitVec 8)) (k : Nat) : List (BitVec 8) := xs.take k ++ List.replicate (xs.length - k) 0#8
theorem partB_len (xs : List (BitVec 8)) (k : Nat) (h : k ≤ xs.length) : (partB xs k).length = xs.length := by unfold partB; simp; omega
theorem partB_set (xs : List (BitVec 8)) (k : Nat) (hk : k < xs.length) : (partB xs k).set k xs[k] = partB xs (k + 1) := by
  have e : List.replicate (xs.length - k) 0#8 = 0#8 :: List.replicate (xs.length - (k + 1)) 0#8 := by
    rw [← List.replicate_succ]; congr 1; omega
  have ht : xs.take (k + 1) = xs.take k ++ [xs[k]] := List.take_succ_eq_append_getElem hk
  unfold partB
  rw [e, ht, List.set_append_right _ _ (by simp; omega)]
  have e3 : k - (xs.take k).length = 0 := by simp; omega
  rw [e3, List.append_assoc]
  simp
theorem u8_shr (y : BitVec 64) (s : Nat) : U64 y / 2 ^ s % 256 = U8 ((y >>> s).setWidth 8) := by
  rw [shrU64]
  unfold U64 U8
  rw [BitVec.toNat_setWidth]
  omega
set_option maxHeartbeats 400000
set_option maxRecDepth 100000
theorem bytes_in (w : World) (B g : Nat) (v : Value) (ws : List (BitVec 64)) (a n : Nat) (hi : a + n ≤ 8 * ws.length) (hl : ws.length ≤ 100000) (h : MemAt w B g v ws) :
    Calls Try.prog 79 #[.pointer (some ⟨g, 0, none⟩), .int .i64 a, .int .i64 n] w (MkEP b8 5 (bytesM ws a n) 0 w) := by
  have HL := Lib.hid (len_c w B g v ws h)
  have HI := Lib.hid (insideM_c w ((8 * ws.length : Nat) : Int) (a : Int) n (by omega) (by omega) (by omega) (by omega) (by omega) (by omega))
  rw [show inM ((8 * ws.length : Nat) : Int) (a : Int) n = true from by unfold inM; simp; omega] at HI
  obtain ⟨A, c, e, hc⟩ := h.row.form
  subst e
  have HK := Lib.hid h.blk
  have HR := Lib.hid h.row.rd
  obtain ⟨N, hN⟩ : ∃ N, N = ws.length := ⟨_, rfl⟩
  obtain ⟨M, hM⟩ : ∃ M, M = 8 * ws.length := ⟨_, rfl⟩
  rw [← hM] at HI
  rw [← hN] at HL HK
  have q1 : (N : Int) * 8 = (M : Int) := by omega
  have HM := Lib.hid hM
  have HAN := Lib.hid hi
  have HNN := Lib.hid hN
  have q2 : (M : Int) ≤ 800000 := by omega
  have q3 : (n : Int) ≤ 800000 := by omega
  clear h hc hM hN hi hl
  go_enter Try.func79, Try.ntmps79
  go_wp2_with fail
  refine Calls.mono HL.out ?_
  rintro e w1 ⟨rfl, rfl⟩
  go_wp2_with fail
  refine Calls.mono HI.out ?_
  rintro e w2 ⟨rfl, rfl⟩
  go_wp2_with (at_make; refine wp_make (f := b8) one8 rfl _ _ rfl 0#8 rfl w2.heap.size n _ _ _ _ rfl rfl rfl rfl (by omega) (by decide) (Nat.le_refl _) ?_; rintro q w3 hq ho3 hb3 _)
  rw [← hq]
  clear hq HL HI q1
  obtain ⟨xs, hxs⟩ : ∃ xs, xs = bytesM ws a n := ⟨_, rfl⟩
  have hxl : xs.length = n := by rw [hxs]; unfold bytesM; simp
  have HXL := Lib.hid hxl
  have HXS := Lib.hid hxs
  rw [← hxs]
  clear hxs hxl
  go_loopw [22] (fun i wr => ∃ k : Nat, k ≤ n ∧ i = .int .i64 k ∧ Ow b8 5 wr w2.heap.size (.slice (some ⟨q, 0, none⟩) n n) (partB xs k) ∧ Below w2.heap.size w2 wr) (fun i _ => n - (intOf i).toNat)
  case atStart => exact ⟨0, by omega, rfl, by have := HXL.out; simpa [partB, this] using ho3, hb3⟩
  case round =>
    obtain ⟨k, hkl, rfl, how, hB⟩ := hrel
    by_cases hlt : k < n
    · have p1 : (0 : Int) ≤ (k : Int) := by omega
      have p2 : (k : Int) < (n : Int) := by omega
      have hin := HAN.out
      have hNo := HNN.out
      have hMo := HM.out
      have p3 : (a : Int) + (k : Int) ≤ 800000 := by omega
      obtain ⟨j, hj⟩ : ∃ j, j = (a + k) / 8 := ⟨_, rfl⟩
      obtain ⟨b, hb⟩ : ∃ b, b = (a + k) % 8 := ⟨_, rfl⟩
      have hjl : j < ws.length := by omega
      have c0 := (HK.out.below hB HK.out.lt).cell 0
      obtain ⟨ad, rfl, hadb, hcl⟩ := (HR.out.below hB) j hjl
      obtain ⟨y, hy⟩ : ∃ y, y = ws[j] := ⟨_, rfl⟩
      rw [← hy] at hcl
      have HY := Lib.hid hy
      unfold u64v at hcl
      clear hy
      have p4 : (0 : Int) ≤ (j : Int) := by omega
      have p5 : (j : Int) < (N : Int) := by omega
      have HJ := Lib.hid (And.intro hj.symm hb.symm)
      obtain ⟨s, hs⟩ : ∃ s, s = a + k := ⟨_, rfl⟩
      have d0 : (a : Int) + (k : Int) = (s : Int) := by omega
      have d1 : (s : Int) / 8 = (j : Int) := by omega
      have d2 : (s : Int) % 8 = (b : Int) := by omega
      have d3 : (s : Int).tdiv 8 = (j : Int) := by rw [← d1]; exact Int.tdiv_eq_ediv_of_nonneg (by omega)
      have d4 : (s : Int).tmod 8 = (b : Int) := by rw [← d2]; exact Int.tmod_eq_emod_of_nonneg (by omega)
      have d5 : (0 : Int) ≤ (s : Int) := by omega
      have d6 : (s : Int) ≤ 800000 := by omega
      have d7 : (b : Int) < 8 := by omega
      have d8 : (0 : Int) ≤ (b : Int) := by omega
      clear hj hb hs hin hNo hMo hadb
      have hpl := partB_len xs k (by rw [HXL.out]; omega)
      have hxk : k < xs.length := by rw [HXL.out]; exact hlt
      have hf := how.free k
      have hge := how.ge
      have hcell := how.cell (j := k) (by rw [hpl]; exact hxk)
      have hset := how.set (j := k) (by rw [hpl]; exact hxk) xs[k]
      rw [partB_set xs k hxk] at hset
      obtain ⟨z, hz⟩ : ∃ z, z = (partB xs k)[k]'(by rw [hpl]; exact hxk) := ⟨_, rfl⟩
      rw [← hz] at hcell
      unfold b8 at hcell hset
      have hB' : ∀ m u, Below w2.heap.size w2 ((wr.drewN m).setCell ⟨q, k, none⟩ u) := fun m u => (bdN hB m).setCell (p := ⟨q, k, none⟩) hge.1 _
      have hval : xs[k] = (y >>> (8 * b)).setWidth 8 := by
        have e1 : xs[k] = byteAt ws (a + k) := by
          have := HXS.out
          subst this
          simp [bytesM]
        rw [e1, HY.out]
        unfold byteAt
        rw [HJ.out.1, HJ.out.2, List.getD_eq_getElem?_getD, List.getElem?_eq_getElem hjl]
        rfl
      rw [hval, ← u8_shr] at hset
      have HS := Lib.hid hset
      have HB' := Lib.hid hB'
      clear hset hB' hz how hge hval hpl hxk
      go_wp2_with fail
      go_roundw
      case rel => exact ⟨k + 1, by omega, by go_num, HS.out, HB'.out 0 _⟩
      case measure => (first | (simp [intOf]; done) | (simp [intOf]; omega))
    · have hkk : k = n := by omega
      subst hkk
      have hw : partB xs k = xs := by unfold partB; rw [HXL.out]; simp; rw [← HXL.out]; simp
      rw [hw] at how
      have hxl := HXL.out
      subst hxl
      go_wp2_with fail
      go_ret2
      rw [← HXS.out]
      exact MkEP.of how hB
end Go.Proofs.Ytaminpfgkegibaa
