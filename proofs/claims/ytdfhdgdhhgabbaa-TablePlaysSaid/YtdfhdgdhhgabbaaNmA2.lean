/- Bind where it refuses a number or a name. No conditions. -/
import Derived.Test.YtdfhdgdhhgabbaaNmA1
namespace Go.Proofs.Ytdfhdgdhhgabbaa
set_option linter.unusedVariables false
set_option linter.unusedSimpArgs false
open Go.RowKit Go.Maps Go.Sort
set_option maxHeartbeats 1000000
set_option maxRecDepth 100000
theorem bind_low (w : World) (g : Nat) (k : Nm) (hk : nW k) (to : Int) (ht : to < 1) : Calls Try.prog 13 #[.pointer (some ⟨g, 0, none⟩), nV k, .int .i64 to] w (RetP (.tuple #[.int .i64 0, .int .i64 1]) w) := by
  unfold nV
  obtain ⟨arr, harr⟩ : ∃ arr, arr = nC k := ⟨_, rfl⟩
  have HA := Lib.hid (show arr.size = 32 from by rw [harr]; exact nC_size hk)
  have HAO := Lib.hid (show arr.all (·.oneCell') = true from by rw [harr]; exact nC_one k)
  rw [← harr]
  have q1 : decide (to < 1) = true := by simp; omega
  clear harr hk ht
  go_enter Try.func13, Try.ntmps13
  go_wp2_with fail
  go_ret2
  exact ⟨rfl, Gw.alloc w _⟩
theorem bind_nm (w : World) (g : Nat) (k : Nm) (hk : nW k) (hno : ¬ ∃ s, goodN s ∧ k = padNm s) (to : Int) (ht : 1 ≤ to) : Calls Try.prog 13 #[.pointer (some ⟨g, 0, none⟩), nV k, .int .i64 to] w (RetP (.tuple #[.int .i64 0, .int .i64 4]) w) := by
  by_cases hg : goodN (cutN k)
  · have hne : padNm (cutN k) ≠ k := fun e => hno ⟨_, hg, e.symm⟩
    have hk2 : nW (padNm (cutN k)) := padNm_w hg.2.1
    have heq := eqN (padNm (cutN k)) k hk2 hk
    rw [show decide (padNm (cutN k) = k) = false from by simpa using hne] at heq
    have HST := Lib.hid (fun W => string_c W k hk)
    have HFX := Lib.hid (fun W => fix_ok (cutN k) W hg)
    unfold nV at HST HFX ⊢
    obtain ⟨arr, harr⟩ : ∃ arr, arr = nC k := ⟨_, rfl⟩
    obtain ⟨ar2, har2⟩ : ∃ arr, arr = nC (padNm (cutN k)) := ⟨_, rfl⟩
    obtain ⟨st, hst⟩ : ∃ st, st = strB (cutN k) := ⟨_, rfl⟩
    have HS := Lib.hid (show arr.size = 32 from by rw [harr]; exact nC_size hk)
    have HONE := Lib.hid (show arr.all (·.oneCell') = true from by rw [harr]; exact nC_one k)
    have HS2 := Lib.hid (show ar2.size = 32 from by rw [har2]; exact nC_size hk2)
    have HONE2 := Lib.hid (show ar2.all (·.oneCell') = true from by rw [har2]; exact nC_one _)
    rw [← harr] at HST heq ⊢
    rw [← har2] at HFX heq
    rw [← hst] at HST HFX
    obtain ⟨za, hza⟩ : ∃ za, za = nC zN := ⟨_, rfl⟩
    have hzero := zeroN
    rw [← hza] at hzero
    have HZS := Lib.hid (show za.size = 32 from by rw [hza]; exact nC_size zN_w)
    have q1 : decide (to < 1) = false := by simp; omega
    clear harr har2 hst hza hno hne hk hk2 hg ht
    have HQ := Lib.hid (Bk.new w 24 arr)
    have HW := Lib.hid (Gw.alloc w (.cells arr 24))
    go_enter Try.func13, Try.ntmps13
    go_wp2_with (refine wp_loadG rfl _ rfl w.heap.size rfl 24 arr HQ.out HS.out ?_)
    refine Calls.mono (HST.out _) ?_
    rintro e w1 ⟨rfl, b1⟩
    have HQ1 := Lib.hid (HQ.out.below b1 HQ.out.lt)
    have HW1 := Lib.hid (HW.out.trans (b1.mono (by simp)))
    clear b1 HQ HW HST
    go_wp2_with fail
    refine Calls.mono (HFX.out _) ?_
    rintro e w2 ⟨rfl, b2⟩
    have HQ2 := Lib.hid (HQ1.out.below b2 HQ1.out.lt)
    have HW2 := Lib.hid (HW1.out.trans (b2.mono HW1.out.size))
    have HN2 := Lib.hid (show w.heap.size < w2.heap.size from Nat.lt_of_lt_of_le HQ1.out.lt b2.size)
    clear b2 HQ1 HW1 HFX
    have HR2 := Lib.hid (Bk.new w2 24 za)
    have HQ2a := Lib.hid (HQ2.out.alloc (.cells za 24))
    have HW2a := Lib.hid (HW2.out.trans ((Gw.alloc w2 (.cells za 24)).mono HW2.out.size))
    go_wp2_with (first
      | (refine wp_storeN rfl _ _ rfl w2.heap.size ar2 rfl rfl 24 za HR2.out HS2.out HZS.out HONE2.out ?_; intro w3 k3 b3 o3; have HR3 := Lib.hid k3; have HQ3 := Lib.hid (show Bk w3 w.heap.size 24 arr from (o3 _ (by have := HN2.out; omega)).trans HQ2a.out); have HW3 := Lib.hid (HW2a.out.trans (b3 w.heap.size (by have := HN2.out; omega))); clear k3 b3 o3)
      | (refine wp_loadG rfl _ rfl w2.heap.size rfl 24 ar2 HR3.out HS2.out ?_)
      | (refine wp_loadG rfl _ rfl w.heap.size rfl 24 arr HQ3.out HS.out ?_))
    go_ret2
    exact ⟨rfl, HW3.out⟩
  · have HST := Lib.hid (fun W => string_c W k hk)
    have HFX := Lib.hid (fun W => fix_bad (cutN k) W hg)
    unfold nV at HST HFX ⊢
    obtain ⟨arr, harr⟩ : ∃ arr, arr = nC k := ⟨_, rfl⟩
    obtain ⟨st, hst⟩ : ∃ st, st = strB (cutN k) := ⟨_, rfl⟩
    have HS := Lib.hid (show arr.size = 32 from by rw [harr]; exact nC_size hk)
    have HONE := Lib.hid (show arr.all (·.oneCell') = true from by rw [harr]; exact nC_one k)
    rw [← harr] at HST ⊢
    rw [← hst] at HST HFX
    obtain ⟨za, hza⟩ : ∃ za, za = nC zN := ⟨_, rfl⟩
    have hzero := zeroN
    rw [← hza] at hzero HFX
    have HZS := Lib.hid (show za.size = 32 from by rw [hza]; exact nC_size zN_w)
    have HZO := Lib.hid (show za.all (·.oneCell') = true from by rw [hza]; exact nC_one _)
    have q1 : decide (to < 1) = false := by simp; omega
    clear harr hst hza hno hk hg ht
    have HQ := Lib.hid (Bk.new w 24 arr)
    have HW := Lib.hid (Gw.alloc w (.cells arr 24))
    go_enter Try.func13, Try.ntmps13
    go_wp2_with (refine wp_loadG rfl _ rfl w.heap.size rfl 24 arr HQ.out HS.out ?_)
    refine Calls.mono (HST.out _) ?_
    rintro e w1 ⟨rfl, b1⟩
    have HW1 := Lib.hid (HW.out.trans (b1.mono (by simp)))
    clear b1 HQ HW HST
    go_wp2_with fail
    refine Calls.mono (HFX.out _) ?_
    rintro e w2 ⟨rfl, b2⟩
    have HW2 := Lib.hid (HW1.out.trans (b2.mono HW1.out.size))
    clear b2 HW1 HFX
    have HR2 := Lib.hid (Bk.new w2 24 za)
    have HR3 := Lib.hid (Gw.alloc w2 (.cells za 24))
    go_wp2_with (refine wp_storeN rfl _ _ rfl w2.heap.size za rfl rfl 24 za HR2.out HZS.out HZS.out HZO.out ?_; intro w3 k3 b3 o3; have HB3 := Lib.hid (HR3.out.trans (b3 w2.heap.size (Nat.le_refl _))); clear k3 b3 o3)
    go_ret2
    exact ⟨rfl, HW2.out.trans (HB3.out.mono HW2.out.size)⟩
end Go.Proofs.Ytdfhdgdhhgabbaa
