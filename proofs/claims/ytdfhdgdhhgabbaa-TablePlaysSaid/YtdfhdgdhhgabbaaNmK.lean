/- Roots of a table of one name. No conditions but that. -/
import Derived.Test.YtdfhdgdhhgabbaaNmJ
namespace Go.Proofs.Ytdfhdgdhhgabbaa
set_option linter.unusedVariables false
set_option linter.unusedSimpArgs false
open Go.RowKit Go.Maps Go.Sort Go.Shelf
set_option maxHeartbeats 1000000
set_option maxRecDepth 100000
theorem roots1_c {B : Nat} {w : World} {g : Nat} (k : Nm) (hk : nW k) (z : Int) (h : TbX B w g [(k, z)]) (st : ByteArray) (hst : st = strB (cutN k)) :
    Calls Try.prog 17 #[.pointer (some ⟨g, 0, none⟩)] w fun e w' => ∃ v, e = .returned v ∧ RootV w.heap.size st z v w' ∧ Below w.heap.size w w' := by
  obtain ⟨mb, h1, h2, _, _⟩ := h
  obtain ⟨b, rfl⟩ : ∃ b, mb = some b := by
    cases mb with
    | none => cases (show [(k, z)] = [] from h2)
    | some b => exact ⟨b, rfl⟩
  have hseq := keysN_gives Fence.wide 4 trivial rfl (by omega) w.heap.size b [(k, z)] (w.alloc (.cells #[.map (some b)] 32)) (by simp) ((Bk.new w 32 #[.map (some b)]).cell 0) (NmIs.below h2 (Gw.alloc w _))
  have HS := Lib.hid (sorted1_c 29 #[.pointer (some ⟨w.heap.size, 0, none⟩)] (enters_of Try.func29 (by kernel_rfl) rfl) ⟨k, hk⟩ _ hseq (.func (.func 24) #[] #[]))
  have HST := Lib.hid (fun W => string_c W k hk)
  rw [← hst] at HST
  unfold nV at HST
  obtain ⟨arr, harr⟩ : ∃ arr, arr = nC k := ⟨_, rfl⟩
  rw [← harr] at HST
  have HA := Lib.hid harr
  have HAS := Lib.hid (show arr.size = 32 from by rw [harr]; exact nC_size hk)
  have HAO := Lib.hid (show arr.all (·.oneCell') = true from by rw [harr]; exact nC_one k)
  obtain ⟨za, hza⟩ : ∃ za, za = nC zN := ⟨_, rfl⟩
  have hzero := zeroN
  rw [← hza] at hzero
  have HZS := Lib.hid (show za.size = 32 from by rw [hza]; exact nC_size zN_w)
  have HG := Lib.hid h1
  have HK := Lib.hid hk
  have HM := Lib.hid (show NmIs w b [(k, z)] from h2)
  have c0 := h1.cell 0
  clear hseq hst harr hza h1 h2
  go_enter Try.func17, Try.ntmps17
  go_wp2_with fail
  refine Calls.mono (mkeysN_c (some b) w) ?_
  rintro e w1 ⟨rfl, rfl⟩
  go_wp2_with fail
  refine Calls.mono HS.out ?_
  rintro e w2 ⟨A, c, rfl, hr, hb⟩
  obtain ⟨q, rfl, hq, hc1, hcells⟩ := hr.at0
  have HB2 := Lib.hid (show Below w.heap.size w w2 from (Gw.alloc w _).trans (hb.mono (by simp)))
  have HC2 := Lib.hid hcells
  clear hr hb hcells hq HS
  go_wp2_with fail
  go_loopw [3, 13] (fun v i wr => Below w.heap.size w wr ∧ ((i = .int .i64 0 ∧ v = .slice none 0 0 ∧ (∀ j u, (k.map b8)[j]? = some u → wr.cell? ((⟨q, 0, none⟩ : Addr).add j) = some u)) ∨ (i = .int .i64 1 ∧ RootV w.heap.size st z v wr))) (fun _ i _ => match i with | .int _ n => (1 - n).toNat | _ => 0)
  case atStart => exact ⟨HB2.out, .inl ⟨rfl, rfl, HC2.out⟩⟩
  case round =>
    obtain ⟨hb, h⟩ := hrel
    rcases h with ⟨rfl, rfl, hc⟩ | ⟨rfl, hv⟩
    · have HC := Lib.hid hc
      have HB := Lib.hid hb
      have HNA := Lib.hid (Bk.new wr 24 za)
      have HGA := Lib.hid (Gw.alloc wr (.cells za 24))
      clear hc hb
      go_wp2_with (first
        | (refine wp_loadC rfl _ rfl ⟨q, 0, none⟩ rfl k HK.out HC.out ?_; rw [← HA.out])
        | (refine wp_storeN rfl _ _ rfl wr.heap.size arr rfl rfl 24 za HNA.out HAS.out HZS.out HAO.out ?_; intro w5 k5 b5 o5; have HK5 := Lib.hid k5; have HB5 := Lib.hid (HGA.out.trans ((b5 wr.heap.size (Nat.le_refl _)))); clear k5 b5 o5))
      have HB6 := Lib.hid (HB.out.trans (HB5.out.mono HB.out.size))
      have HL := Lib.hid (show ∀ W, Below w5.heap.size w5 W → (Instr.lookup 32 (.map (some b)) (.agg arr) false).run Try.prog W = .ok (.int .i64 z) W from fun W hW => by
        have h6 := (HM.out.below (HB6.out.trans (hW.mono HB6.out.size))).look1 HK.out
        rw [nV, ← HA.out] at h6
        rw [h6]
        simp [vOf])
      refine ro_reg _ _ _ w.heap.size g wr.heap.size HB6.out.size (some b) arr z st HAS.out (HG.out.below HB6.out HG.out.lt) HK5.out HST HL rfl rfl rfl rfl ?_
      intro vals w7 hG h3
      obtain ⟨v7, hv7⟩ : ∃ v, v = vals 12 := ⟨_, rfl⟩
      simp only [putD, Act.put, List.setIfInBounds_toArray, List.set_cons_zero, List.set_cons_succ]
      have HB7 := Lib.hid (HB6.out.trans (hG.mono HB6.out.size))
      have HV := Lib.hid h3
      clear hG h3 hv7
      go_wp2_with fail
      go_roundw
      case rel => exact ⟨HB7.out, .inr ⟨rfl, HV.out⟩⟩
      case measure => simp
    · have HV := Lib.hid hv
      have HB := Lib.hid hb
      clear hv hb
      go_wp2_with fail
      go_ret
      exact ⟨_, rfl, HV.out, HB.out⟩
end Go.Proofs.Ytdfhdgdhhgabbaa
