/- key.Set's Remove, walked. Conditions: lengths. -/
import Derived.Test.YtgddehhigamkkaaKyI
import Derived.Test.YtgddehhigamkkaaRegU
import Derived.Deep.RegionHeld3
namespace Go.Proofs.Ytgddehhigamkkaa
set_option linter.unusedVariables false
set_option linter.unusedSimpArgs false
open Go.RowKit Go.Maps
set_option maxHeartbeats 2000000
set_option maxRecDepth 100000
theorem map_ne {w : World} {g b : Nat} {mb : Option Nat} {m : List (Int × Int)} (h : SetAt w g mb m) (e : mb = some b) : b ≠ g := by
  subst e
  intro e2
  have h5 := h.blk
  rw [← e2] at h5
  obtain ⟨D, ⟨es, ck, hm, _⟩, _⟩ := h.set
  unfold Bk at h5
  rw [hm] at h5
  cases h5
theorem srem_c {B : Nat} {X : Nat → Prop} {w : World} {g : Nat} {m : List (Int × Int)} (h : SetX B X w g m) (A : Option Addr) (c : Nat) (ks : List (Int × Int)) (hr : KRd w w.heap.size A ks) (hA : ∀ ad, A = some ad → ks ≠ [] → ad.block < B ∨ X ad.block) (hw : ∀ k ∈ ks, kW k) (hks : ks.length ≤ 1000) (hm : m.length ≤ 100000) :
    Calls Try.prog 16 #[.pointer (some ⟨g, 0, none⟩), .slice A ks.length c] w (SxP B X w g (offL m ks) (.int .i64 (m.length - (offL m ks).length))) := by
  obtain ⟨n, hn⟩ : ∃ n, n = ks.length := ⟨_, rfl⟩
  rw [← hn]
  have HN := Lib.hid hn
  have HH := Lib.hid (And.intro hA (And.intro hw (And.intro hks hm)))
  have HR := Lib.hid hr
  obtain ⟨mb, h1, h2⟩ := h
  have c0 := h1.blk.cell 0
  have q1 : (n : Int) ≤ 1000 := by omega
  have H1 := Lib.hid h1
  have H2 := Lib.hid h2
  have hlen := h1.set.len
  clear h1 h2 hr hA hw hks hm hn
  go_enter Try.func16, Try.ntmps16
  go_wp2_with fail
  go_loopw [7, 15] (fun _ i wr => ∃ j : Nat, j ≤ n ∧ i = .int .i64 j ∧ Hid (SetAt wr g mb (offL m (ks.take j))) ∧ Hid (Kept (fun k => B ≤ k ∧ ¬ X k) w wr)) (fun _ i _ => n - (intOf i).toNat)
  case atStart => exact ⟨0, Nat.zero_le _, rfl, H1, Lib.hid (Kept.refl _ _)⟩
  case round =>
    obtain ⟨j, hj, rfl, hS, hK⟩ := hrel
    clear c0 hlen
    by_cases hlt : j < n
    · have p1 : (0 : Int) ≤ (j : Int) := by omega
      have p2 : (j : Int) < (n : Int) := by omega
      have hjl : j < ks.length := by rw [← HN.out]; exact hlt
      obtain ⟨ad, rfl, hab, c1, c2⟩ := (HR.out.kept hK.out (fun ad e f => by rcases HH.out.1 ad e (fun h0 => by rw [h0] at hjl; cases hjl) with h | h; omega; exact f.2 h)) j hjl
      have hwk := HH.out.2.1 _ (List.getElem_mem hjl)
      have htk : ks.take (j + 1) = ks.take j ++ [ks[j]] := List.take_succ_eq_append_getElem hjl
      obtain ⟨x, hx⟩ : ∃ x, x = ks[j].1 := ⟨_, rfl⟩
      obtain ⟨y, hy⟩ : ∃ y, y = ks[j].2 := ⟨_, rfl⟩
      have hxy : ks[j] = (x, y) := Prod.ext hx.symm hy.symm
      rw [hxy] at htk hwk
      rw [← hx] at c1
      rw [← hy] at c2
      have HT := Lib.hid (And.intro htk hwk)
      have d0 := hS.out.blk.cell 0
      have HL := Lib.hid hS.out.blk.lt
      clear hx hy hxy htk hwk hab
      go_wp2_with fail
      have hbox := Bk.new wr 23 #[.int .i64 x, .int .i64 y]
      have hal := Gw.alloc wr (.cells #[.int .i64 x, .int .i64 y] 23)
      refine sd_reg _ _ _ g wr.heap.size mb x y (by simp; have := HL.out; omega) (by simp) ((hal.cell (p := ⟨g, 0, none⟩) HL.out).trans d0) hbox.two.1 hbox.two.2 rfl rfl rfl ?_
      intro vals w7 hG h22 h23
      unfold IsV at h22 h23
      simp only [putD, Act.put, List.setIfInBounds_toArray, List.set_cons_zero, List.set_cons_succ, h22, h23]
      have hbb : Below wr.heap.size wr w7 := hal.trans (hG.mono hal.size)
      have HS7 := Lib.hid (hS.out.kept (Kept.of_below hbb (fun _ => False)) (fun f => f) (fun _ _ f => f))
      have HK7 := Lib.hid (hK.out.trans (Kept.of_below hbb _))
      clear h22 h23 hbox hal hG hbb d0 c1 c2
      go_wp2_with (at_delete; refine wp_delK rfl (.tmp 22) (.tmp 23) rfl rfl HS7.out.set (x, y) rfl HT.out.2 ?_; intro w8 h8 k8; have HS8 := Lib.hid (show SetAt w8 g mb (offK (offL m (ks.take j)) (x, y)) from ⟨k8.bk HS7.out.blk (fun e => map_ne HS7.out e rfl), h8⟩); have HK8 := Lib.hid (HK7.out.trans (k8.more (fun k e => H2.out k (.inr e)))); clear h8 k8)
      go_roundw
      case rel => exact ⟨j + 1, by omega, by go_num, Lib.hid (by rw [HT.out.1, offL_snoc]; exact HS8.out), HK8⟩
      case measure => (first | (simp [intOf]; done) | (simp [intOf]; omega))
    · obtain rfl : j = n := by omega
      have hS2 := hS.out
      rw [List.take_of_length_le (by rw [← HN.out]; omega)] at hS2
      have d0 := hS2.blk.cell 0
      have hlen := hS2.set.len
      have q4 : ((offL m ks).length : Int) ≤ 1000000 := by have := offL_len ks m; have := HH.out.2.2.2; omega
      have q5 : (m.length : Int) ≤ 100000 := by have := HH.out.2.2.2; omega
      have HS2 := Lib.hid hS2
      obtain ⟨L1, hL1⟩ : ∃ L1, L1 = (offL m ks).length := ⟨_, rfl⟩
      obtain ⟨L0, hL0⟩ : ∃ L0, L0 = m.length := ⟨_, rfl⟩
      rw [← hL1] at hlen q4 ⊢
      rw [← hL0] at q5 ⊢
      have HLL := Lib.hid (And.intro hL1 hL0)
      clear hS2 hL1 hL0
      go_wp2_with fail
      go_ret
      refine ⟨by rw [← HLL.out.1, ← HLL.out.2]; rfl, ⟨mb, HS2.out, H2.out⟩, hK.out⟩
theorem shas_c {B : Nat} {X : Nat → Prop} {w : World} {g : Nat} {m : List (Int × Int)} (h : SetX B X w g m) (p : Int × Int) (hp : kW p) :
    Calls Try.prog 21 #[.pointer (some ⟨g, 0, none⟩), kV p] w fun e w' => e = .returned (.bool (decide (p ∈ m))) ∧ Below w.heap.size w w' := by
  obtain ⟨mb, h1, h2⟩ := h
  have H1 := Lib.hid h1
  obtain ⟨r, hr⟩ : ∃ r, r = decide (p ∈ m) := ⟨_, rfl⟩
  rw [← hr]
  have HL := Lib.hid (show ∀ W, Below w.heap.size w W → (Instr.lookup 35 (.map mb) (kV p) true).run Try.prog W = .ok (.tuple #[.agg #[], .bool r]) W from fun W hb => by rw [hr]; exact (h1.set.kept (Kept.of_below hb (fun _ => False)) (fun _ _ f => f)).look hp)
  clear hr h1 h2
  obtain ⟨x, y⟩ := p
  unfold kV at HL ⊢
  obtain ⟨W0, hW0⟩ : ∃ X, X = w.alloc (.cells #[.int .i64 x, .int .i64 y] 23) := ⟨_, rfl⟩
  obtain ⟨H, hH⟩ : ∃ H, H = w.heap.size := ⟨_, rfl⟩
  have hA : Bk W0 H 23 #[.int .i64 x, .int .i64 y] := by rw [hW0, hH]; exact Bk.new w _ _
  have hW : Below w.heap.size w W0 := by rw [hW0]; exact Gw.alloc w _
  have hc : W0.cell? ⟨g, 0, none⟩ = some (.map mb) := (hW.cell (p := ⟨g, 0, none⟩) H1.out.blk.lt).trans (H1.out.blk.cell 0)
  have hP : ∀ W, Below W0.heap.size W0 W → W.cell? ⟨g, 0, none⟩ = some (.map mb) ∧ W.cell? ⟨H, 0, none⟩ = some (.int .i64 x) ∧ W.cell? ⟨H, 1, none⟩ = some (.int .i64 y) ∧ (Instr.lookup 35 (.map mb) (.agg #[.int .i64 x, .int .i64 y]) true).run Try.prog W = .ok (.tuple #[.agg #[], .bool r]) W := fun W hb =>
    ⟨(hb.cell (p := ⟨g, 0, none⟩) (Nat.lt_of_lt_of_le H1.out.blk.lt hW.size)).trans hc, (hA.below hb hA.lt).two.1, (hA.below hb hA.lt).two.2, HL.out W (hW.trans (hb.mono hW.size))⟩
  have HP := Lib.hid hP
  have HW := Lib.hid hW
  have HS := Lib.hid (show W0.heap.size = w.heap.size + 1 from by rw [hW0]; simp)
  have hA' := hA
  clear hP hA hA' hc HL hW
  go_enter Try.func21, Try.ntmps21
  go_wp2_with fail
  rw [← hW0, ← hH]
  clear hW0 hH
  have hkeep : ∀ W W' : World, ((fun W : World => W.cell? ⟨g, 0, none⟩ = some (.map mb) ∧ W.cell? ⟨H, 0, none⟩ = some (.int .i64 x) ∧ W.cell? ⟨H, 1, none⟩ = some (.int .i64 y) ∧ (Instr.lookup 35 (.map mb) (.agg #[.int .i64 x, .int .i64 y]) true).run Try.prog W = .ok (.tuple #[.agg #[], .bool r]) W ∧ Below W0.heap.size W0 W)) W → Below W.heap.size W W' → ((fun W : World => W.cell? ⟨g, 0, none⟩ = some (.map mb) ∧ W.cell? ⟨H, 0, none⟩ = some (.int .i64 x) ∧ W.cell? ⟨H, 1, none⟩ = some (.int .i64 y) ∧ (Instr.lookup 35 (.map mb) (.agg #[.int .i64 x, .int .i64 y]) true).run Try.prog W = .ok (.tuple #[.agg #[], .bool r]) W ∧ Below W0.heap.size W0 W)) W' := fun W W' hs hb => by
    have h1 : Below W0.heap.size W0 W' := hs.2.2.2.2.trans (hb.mono hs.2.2.2.2.size)
    obtain ⟨k1, k2, k3, k4⟩ := HP.out W' h1
    exact ⟨k1, k2, k3, k4, h1⟩
  have hS : ((fun W : World => W.cell? ⟨g, 0, none⟩ = some (.map mb) ∧ W.cell? ⟨H, 0, none⟩ = some (.int .i64 x) ∧ W.cell? ⟨H, 1, none⟩ = some (.int .i64 y) ∧ (Instr.lookup 35 (.map mb) (.agg #[.int .i64 x, .int .i64 y]) true).run Try.prog W = .ok (.tuple #[.agg #[], .bool r]) W ∧ Below W0.heap.size W0 W)) W0 := by
    obtain ⟨k1, k2, k3, k4⟩ := HP.out W0 (Below.refl _ _)
    exact ⟨k1, k2, k3, k4, Below.refl _ _⟩
  clear HP
  dsimp only at hS
  go_region_held3 (fun W : World => W.cell? ⟨g, 0, none⟩ = some (.map mb) ∧ W.cell? ⟨H, 0, none⟩ = some (.int .i64 x) ∧ W.cell? ⟨H, 1, none⟩ = some (.int .i64 y) ∧ (Instr.lookup 35 (.map mb) (.agg #[.int .i64 x, .int .i64 y]) true).run Try.prog W = .ok (.tuple #[.agg #[], .bool r]) W ∧ Below W0.heap.size W0 W)
    (first
      | assumption
      | exact hkeep _ _ hS (Below.drew (Below.refl _ _))
      | exact hkeep _ _ hS (Below.drew (Below.alloc (Below.refl _ _) (Nat.le_refl _) _))
      | (refine hkeep _ _ ?_ (Below.alloc (Below.refl _ _) (Nat.le_refl _) _); assumption)
      | go_keep)
    (fail)
  all_goals
    go_wp2_with fail
    go_ret
    exact ⟨rfl, HW.out.trans ((Below.drew (Below.alloc (Below.refl _ _) (Nat.le_refl _) _)).mono HW.out.size)⟩
end Go.Proofs.Ytgddehhigamkkaa
