/- numbered: pointers by their new numbers. Conditions: lengths. -/
import Derived.Test.YtkkjnahjmomjgaaGrR
import Derived.Test.YtkkjnahjmomjgaaHdL
namespace Go.Proofs.Ytkkjnahjmomjgaa
set_option linter.unusedVariables false
set_option linter.unusedSimpArgs false
open Go.RowKit Go.Maps
def newP (l : List (Int × Int)) (p : Int) : Int := (lookI l p).getD 0
def partI (xs ys : List Int) (k : Nat) : List Int := ys.take k ++ List.replicate (xs.length - k) 0
set_option maxHeartbeats 1000000
set_option maxRecDepth 100000
theorem wfI {n : Int} (h1 : -9223372036854775808 ≤ n) (h2 : n ≤ 9223372036854775807) : (Lit.int .i64 n).wf = true := by
  simp [Lit.wf, IntKind.min, IntKind.max, IntKind.signed, IntKind.bits]; omega
theorem numbered_c (w : World) (A : Option Addr) (c mb : Nat) (ps : List Int) (l : List (Int × Int)) (hr : Rd iV w w.heap.size A ps) (hm : MapIs w (some mb) l) (hl : ps.length ≤ 1000000) (hw : ∀ p ∈ ps, (Lit.int .i64 p).wf = true) : Calls Try.prog 53 #[.slice A ps.length c, .map (some mb)] w fun e w' => ∃ A c, e = .returned (.slice A ps.length c) ∧ Ow iV 3 w' w.heap.size (.slice A ps.length c) (ps.map (newP l)) ∧ Below w.heap.size w w' := by
  have HR := Lib.hid hr
  have HM := Lib.hid hm
  have HW := Lib.hid hw
  obtain ⟨N, hN⟩ : ∃ N, N = ps.length := ⟨_, rfl⟩
  have HN := Lib.hid hN
  have q0 : (N : Int) ≤ 1000000 := by omega
  rw [← hN]
  clear hr hm hw hl hN
  go_enter Try.func53, Try.ntmps53
  go_wp2_with (at_make; refine wp_make (f := iV) oneI rfl _ _ rfl 0 rfl w.heap.size N _ _ _ _ rfl rfl rfl rfl (by omega) (by decide) (Nat.le_refl _) ?_; rintro q w2 hq ho2 hb2 _; have H2 := Lib.hid (And.intro ho2 hb2); have HQ := Lib.hid hq; clear ho2 hb2 hq)
  go_loopw [13] (fun i W => ∃ (k : Nat) (L : List Int), i = .int .i64 k ∧ k ≤ N ∧ Hid (L.length = N ∧ L.take k = (ps.take k).map (newP l)) ∧ Ow iV 3 W w.heap.size (.slice (some ⟨q, 0, none⟩) N N) L ∧ Below w.heap.size w W) (fun i _ => N - (Go.RowKit.intOf i).toNat)
  case atStart => exact ⟨0, _, rfl, Nat.zero_le _, Lib.hid ⟨List.length_replicate, by simp⟩, H2.out⟩
  case round =>
    obtain ⟨k, L, rfl, hk, hL, ho, hB⟩ := hrel
    by_cases hlt : k < N
    · have hkl : k < ps.length := by rw [← HN.out]; exact hlt
      obtain ⟨p, hp⟩ : ∃ p, p = ps[k] := ⟨_, rfl⟩
      obtain ⟨ad, rfl, hcell⟩ : ∃ ad, A = some ad ∧ wr.cell? (ad.add k) = some (.int .i64 p) := by
        obtain ⟨ad, e, _, hc⟩ := (HR.out.below hB) k hkl
        exact ⟨ad, e, by rw [hp]; exact hc⟩
      have hlk := (HM.out.kept (Kept.of_below hB (fun _ => False)) (fun _ _ f => f)).look (HW.out p (by rw [hp]; exact List.getElem_mem _))
      have hkL : k < L.length := by rw [hL.out.1]; exact hlt
      have hf := ho.free k
      have hc := ho.cell (j := k) hkL
      obtain ⟨y, hy⟩ : ∃ y, y = L[k] := ⟨_, rfl⟩
      rw [← hy] at hc
      unfold iV at hc
      obtain ⟨z, hz⟩ : ∃ z, z = (lookI l p).getD 0 := ⟨_, rfl⟩
      rw [← hz] at hlk
      have ho2 : Ow iV 3 (wr.setCell ⟨q, k, none⟩ (.int .i64 z)) w.heap.size (.slice (some ⟨q, 0, none⟩) N N) (L.set k z) := ho.set hkL z
      have hB2 := hB.setCell (p := ⟨q, k, none⟩) (show w.heap.size ≤ q from ho.ge.1) (.int .i64 z)
      have hL2 : (L.set k z).length = N ∧ (L.set k z).take (k + 1) = (ps.take (k + 1)).map (newP l) := by
        refine ⟨by rw [List.length_set]; exact hL.out.1, ?_⟩
        rw [take_snoc (L.set k z) k (by rw [List.length_set]; exact hkL), take_snoc ps k hkl, List.map_append, ← hL.out.2, List.take_set_of_le (Nat.le_refl k)]
        simp [hz, newP, hp]
      have H5 := Lib.hid (And.intro ho2 (And.intro hB2 hL2))
      have hql := ho.ge.2
      have p1 : (0 : Int) ≤ (k : Int) := by omega
      have p2 : (k : Int) < (N : Int) := by omega
      clear hp hL ho hB ho2 hB2 hL2 hkl hkL hy hz
      go_wp2_with fail
      go_roundw
      case rel => exact ⟨k + 1, _, by go_num, by omega, Lib.hid H5.out.2.2, H5.out.1, H5.out.2.1⟩
      case measure => simp [Go.RowKit.intOf]; omega
    · have hfin : L = ps.map (newP l) := by
        have h := hL.out.2
        rwa [List.take_of_length_le (by rw [hL.out.1]; omega), List.take_of_length_le (by rw [← HN.out]; omega)] at h
      have HO := Lib.hid (And.intro ho (And.intro hB hfin))
      clear ho hB hfin hL
      go_wp2_with fail
      go_ret
      refine ⟨_, _, rfl, ?_, HO.out.2.1⟩
      rw [← HO.out.2.2]
      exact HO.out.1
end Go.Proofs.Ytkkjnahjmomjgaa
