/- slices.Grow of nothing, slices.Concat of two rows, numbered. Conditions: lengths. -/
import Derived.Test.YtkkjnahjmomjgaaGrP
import Derived.Lib.AppendZeros
namespace Go.Proofs.Ytkkjnahjmomjgaa
set_option linter.unusedVariables false
set_option linter.unusedSimpArgs false
open Go.RowKit
set_option maxHeartbeats 1000000
set_option maxRecDepth 100000
theorem infoI : (Try.prog.info? 3).map (fun i => (i.zero, i.size, i.bytes)) = some (some (.int .i64 0), 1, 8) := by kernel_rfl
theorem grow0_c (w : World) (n : Nat) (hn : n ≤ 10000000) : Calls Try.prog 85 #[.slice none 0 0, .int .i64 n] w fun e w' => ∃ v, e = .returned v ∧ Ow iV 3 w' w.heap.size v [] ∧ Below w.heap.size w w' := by
  by_cases h0 : n = 0
  · subst h0
    go_enter Try.func85, Try.ntmps85
    go_wp2_with fail
    go_ret
    exact ⟨_, rfl, Ow.nil_ _ _ _ _, Below.refl _ _⟩
  · obtain ⟨i, hi, hz, hs, hb⟩ := info_parts infoI
    have hr := fun W : World => Lib.run_append_nil_zeros (P := Try.prog) W 49 3 49 3 i (.int .i64 0) .i64 .i64 Try.underlying49 Try.underlying3 hi hz n (by omega) (by omega) (by omega) (by rw [hb]; omega)
    have hcap := fun W : World => grownCap_ge W n 0 3
    have hcm := fun W : World => grownCap_le_maxLen W n 0 3 (by unfold maxLen; omega)
    have HR := Lib.hid (And.intro hr (And.intro hcap hcm))
    have p1 : (0 : Int) < (n : Int) := by omega
    have p2 : (n : Int) ≤ 10000000 := by omega
    clear hr hcap hcm hi hz hs hb h0 hn
    go_enter Try.func85, Try.ntmps85
    go_wp2_with (at_builtin; refine Lib.wpList_append_run _ rfl _ _ _ _ rfl _ _ rfl rfl _ _ (HR.out.1 _) ?_)
    go_ret
    refine ⟨_, rfl, ⟨rfl, .inr ⟨w.heap.size, grownCap w n 0 3, (Builtin.zeroCells #[.int .i64 0] n ++ Builtin.zeroCells #[.int .i64 0] (grownCap w n 0 3 - n)), rfl, Nat.le_refl _, ?_, Nat.zero_le _, HR.out.2.2 w, ?_, by simp⟩⟩, (by repeat (first | with_reducible assumption | with_reducible exact Below.refl _ _ | with_reducible apply bdN | with_reducible apply Below.drew | with_reducible refine Below.alloc ?_ (by simp) _ | with_reducible refine Below.setCell ?_ (by simp) _))⟩
    · exact heap_alloc_new w _
    · have := HR.out.2.1 w
      simp only [Array.size_append, size_zeroCells]
      simp
      omega
theorem ow_mem {α : Type} {f : α → Value} {E : TypeId} {w : World} {base n c : Nat} {A : Option Addr} {xs : List α} (h : Ow f E w base (.slice A n c) xs) : n = xs.length := by
  obtain ⟨_, _, e, _⟩ := h.form
  injection e
/-- Two rows one behind the other. -/
theorem concat_c (w : World) (b : Nat) (A A2 : Option Addr) (c c2 : Nat) (xs ys : List Int) (hx : Rd iV w w.heap.size A xs) (hy : Rd iV w w.heap.size A2 ys) (hb : Bk w b 49 #[.slice A xs.length c, .slice A2 ys.length c2]) (hl : xs.length ≤ 1000000) (hl2 : ys.length ≤ 1000000) : Calls Try.prog 51 #[.slice (some ⟨b, 0, none⟩) 2 2] w fun e w' => ∃ v, e = .returned v ∧ Ow iV 3 w' w.heap.size v (xs ++ ys) ∧ Below w.heap.size w w' := by
  obtain ⟨N, hN⟩ : ∃ N, N = xs.length := ⟨_, rfl⟩
  obtain ⟨M, hM⟩ : ∃ M, M = ys.length := ⟨_, rfl⟩
  rw [← hN, ← hM] at hb
  have c0 := hb.two.1
  have c1 := hb.two.2
  have hbl := hb.lt
  have q0 : (N : Int) ≤ 1000000 := by omega
  have q1 : (M : Int) ≤ 1000000 := by omega
  have HN := Lib.hid (And.intro hN hM)
  have HX := Lib.hid (And.intro hx hy)
  have HB := Lib.hid hb
  clear hN hM hl hl2 hx hy hb
  go_enter Try.func51, Try.ntmps51
  go_wp2_with fail
  go_loopw [3, 11] (fun s i W => Below w.heap.size w W ∧ ((i = .int .i64 0 ∧ s = .int .i64 0) ∨ (i = .int .i64 1 ∧ s = .int .i64 N) ∨ (i = .int .i64 2 ∧ s = .int .i64 ((N + M : Nat) : Int)))) (fun _ i _ => 2 - (intOf i).toNat)
  case atStart => exact ⟨Below.refl _ _, .inl ⟨rfl, rfl⟩⟩
  case round =>
    obtain ⟨hB0, h⟩ := hrel
    have c0 := (hB0.cell (p := ⟨b, 0, none⟩) hbl).trans c0
    have c1 := (hB0.cell (p := ⟨b, 1, none⟩) hbl).trans c1
    rcases h with ⟨rfl, rfl⟩ | ⟨rfl, rfl⟩ | ⟨rfl, rfl⟩
    · have u1 : ¬ ((N : Int) < 0) := by omega
      go_wp2_with fail
      go_roundw
      case rel => exact ⟨hB0, .inr (.inl ⟨rfl, by go_num⟩)⟩
      case measure => simp [intOf]
    · have u1 : ¬ ((N : Int) + (M : Int) < 0) := by omega
      have u2 : (0 : Int) ≤ (N : Int) := by omega
      have u3 : (0 : Int) ≤ (M : Int) := by omega
      go_wp2_with fail
      go_roundw
      case rel => exact ⟨hB0, .inr (.inr ⟨rfl, by go_num⟩)⟩
      case measure => simp [intOf]
    · have HG := Lib.hid (grow0_c wr (N + M) (by omega))
      go_wp2_with fail
      refine Calls.mono HG.out ?_
      rintro r w1 ⟨v, rfl, ho, b1⟩
      have H1 := Lib.hid (And.intro (ho.mono hB0.size) (hB0.trans (b1.mono hB0.size)))
      clear ho b1 HG c0 c1 hB0
      go_wp2_with fail
      go_loopw [6, 27] (fun t i W => ∃ (k : Nat) (L : List Int), i = .int .i64 k ∧ ((k = 0 ∧ L = []) ∨ (k = 1 ∧ L = xs) ∨ (k = 2 ∧ L = xs ++ ys)) ∧ Ow iV 3 W w.heap.size t L ∧ Below w.heap.size w W) (fun _ i _ => 2 - (intOf i).toNat)
      case atStart => exact ⟨0, [], rfl, .inl ⟨rfl, rfl⟩, H1.out⟩
      case round =>
        obtain ⟨k, L, rfl, hk, ho, hB⟩ := hrel
        have d0 := (hB.cell (p := ⟨b, 0, none⟩) hbl).trans (HB.out.cell 0)
        have d1 := (hB.cell (p := ⟨b, 1, none⟩) hbl).trans (HB.out.cell 1)
        have HO := Lib.hid (And.intro ho hB)
        have hr1 := (HX.out.1.below hB).more hB.size
        have hr2 := (HX.out.2.below hB).more hB.size
        have HR1 := Lib.hid hr1
        have HR2 := Lib.hid hr2
        clear hr1 hr2
        rcases hk with ⟨rfl, rfl⟩ | ⟨rfl, rfl⟩ | ⟨rfl, rfl⟩
        · clear ho hB
          go_wp2_with (at_builtin; refine wp_app oneI iV_one rfl (.tmp 31) (.tmp 32) rfl w.heap.size _ [] rfl HO.out.1 A N c xs rfl HN.out.1 _ HR1.out (by have := HN.out.1; simp; omega) (by decide) HO.out.2.size ?_; intro v5 w5 ho5 hb5 hg5 _; have H5 := Lib.hid (And.intro ho5 (HO.out.2.trans hb5)); clear ho5 hb5 hg5)
          go_roundw
          case rel => exact ⟨1, xs, by go_num, .inr (.inl ⟨rfl, rfl⟩), by have := H5.out.1; rw [List.nil_append] at this; exact this, H5.out.2⟩
          case measure => simp [intOf]
        · clear ho hB
          go_wp2_with (at_builtin; refine wp_app oneI iV_one rfl (.tmp 31) (.tmp 32) rfl w.heap.size _ L rfl HO.out.1 A2 M c2 ys rfl HN.out.2 _ HR2.out (by have := HN.out.1; have := HN.out.2; omega) (by decide) HO.out.2.size ?_; intro v5 w5 ho5 hb5 hg5 _; have H5 := Lib.hid (And.intro ho5 (HO.out.2.trans hb5)); clear ho5 hb5 hg5)
          go_roundw
          case rel => exact ⟨2, L ++ ys, by go_num, .inr (.inr ⟨rfl, rfl⟩), H5.out.1, H5.out.2⟩
          case measure => simp [intOf]
        · clear ho hB
          go_wp2_with fail
          go_ret
          exact ⟨_, rfl, HO.out.1, HO.out.2⟩
end Go.Proofs.Ytkkjnahjmomjgaa
