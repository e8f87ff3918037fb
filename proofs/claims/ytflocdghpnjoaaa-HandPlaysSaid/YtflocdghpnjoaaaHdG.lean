/- What loamlaw20.known answers: true. No conditions. -/
import Derived.Test.YtflocdghpnjoaaaHdF
namespace Go.Proofs.Ytflocdghpnjoaaa
set_option linter.unusedVariables false
set_option linter.unusedSimpArgs false
open Go.RowKit Go.Maps
set_option maxHeartbeats 400000
set_option maxRecDepth 100000
theorem k20_open1 (w : World) (g : Nat) (h : TabAt w g none [] 0) : Calls Try.prog 9 #[.pointer (some ⟨g, 0, none⟩), .int .i64 5] w fun e w' => e = .returned (.tuple #[.int .i64 1, .int .i64 0]) ∧ ∃ mb, TabAt w' g mb [(1, 5)] 1 ∧ Kept (Own2 g none) w w' ∧ (∀ b, mb = some b → w.heap.size ≤ b) := by
  refine (hopen_ok w g none [] 0 h 5 (by decide) (by decide) (by decide) (by decide)).mono ?_
  rintro e w' ⟨rfl, mb, h1, h2, h3⟩
  refine ⟨rfl, mb, h1, h2, fun b e => ?_⟩
  rcases h3 with h3 | h3 <;> rw [h3] at e
  · cases e
  · injection e with e; omega
theorem k20_for (w : World) (g : Nat) (mb : Option Nat) (h : TabAt w g mb [(1, 5)] 1) : Calls Try.prog 10 #[.pointer (some ⟨g, 0, none⟩), .int .i64 5] w fun e w' => e = .returned (.tuple #[.int .i64 1, .int .i64 0]) ∧ Below w.heap.size w w' :=
  hfor_hit w g mb [(1, 5)] 1 h 5 0 (by decide) rfl (fun j hj => absurd hj (by omega))
theorem k20_open2 (w : World) (g b : Nat) (h : TabAt w g (some b) [(1, 5)] 1) : Calls Try.prog 9 #[.pointer (some ⟨g, 0, none⟩), .int .i64 5] w fun e w' => e = .returned (.tuple #[.int .i64 2, .int .i64 0]) ∧ TabAt w' g (some b) [(1, 5), (2, 5)] 2 ∧ Kept (Own2 g (some b)) w w' :=
  hopen_some w g b [(1, 5)] 1 h 5 (by decide) (by decide) (by decide) (by decide)
theorem k20_get1 (w : World) (g b : Nat) (h : TabAt w g (some b) [(1, 5), (2, 5)] 2) : Calls Try.prog 18 #[.pointer (some ⟨g, 0, none⟩), .int .i64 2] w fun e w' => e = .returned (.tuple #[.int .i64 5, .bool true]) ∧ w' = w :=
  hget_c w g (some b) _ 2 h 2 (by decide)
theorem k20_ren (w : World) (g b q : Nat) (h : TabAt w g (some b) [(1, 5), (2, 5)] 2) (hq : Bk w q 3 #[.int .i64 0, .int .i64 0, .int .i64 0, .int .i64 0, .int .i64 9]) (h1 : q ≠ g) (h2 : q ≠ b) :
    Calls Try.prog 13 #[.pointer (some ⟨g, 0, none⟩), .slice (some ⟨q, 0, none⟩) 5 5] w fun e w' => e = .returned (.int .i64 0) ∧ TabAt w' g (some b) [(1, 9), (2, 9)] 2 ∧ Kept (Own2 g (some b)) w w' :=
  hren_c w g (some b) [(1, 5), (2, 5)] 2 h (some ⟨q, 0, none⟩) 5 [0, 0, 0, 0, 9] (hq.rd rfl hq.lt) (fun _ ad e => by
    injection e with e
    subst e
    rintro (e | e)
    · exact h1 e
    · injection e with e; exact h2 e.symm) (by decide) (by decide)
theorem k20_get2 (w : World) (g b : Nat) (h : TabAt w g (some b) [(1, 9), (2, 9)] 2) : Calls Try.prog 18 #[.pointer (some ⟨g, 0, none⟩), .int .i64 1] w fun e w' => e = .returned (.tuple #[.int .i64 9, .bool true]) ∧ w' = w :=
  hget_c w g (some b) _ 2 h 1 (by decide)
theorem k20_close (w : World) (g b : Nat) (h : TabAt w g (some b) [(1, 9), (2, 9)] 2) : Calls Try.prog 12 #[.pointer (some ⟨g, 0, none⟩), .int .i64 1] w fun e w' => e = .returned (.bool true) ∧ TabAt w' g (some b) [(2, 9)] 2 ∧ Kept (Own2 g (some b)) w w' :=
  hclose_c w g (some b) _ 2 h 1 (by decide)
/-- A new row of one number. -/
def One1 (w : World) (e : Ending) (w' : World) : Prop := ∃ A c, e = .returned (.slice A 1 c) ∧ Below w.heap.size w w'
theorem one1 {w : World} {x : Int} {e : Ending} {w' : World} (h : NewRow w [x] e w') : One1 w e w' := by
  obtain ⟨v, rfl, ho, hb⟩ := h
  obtain ⟨A, c, rfl, _⟩ := ho.form
  exact ⟨A, c, rfl, hb⟩
theorem k20_live (w : World) (g b : Nat) (h : TabAt w g (some b) [(2, 9)] 2) : Calls Try.prog 16 #[.pointer (some ⟨g, 0, none⟩)] w (One1 w) := (hlive_c w g (some b) _ 2 h).mono fun _ _ h => one1 h
theorem k20_nodes (w : World) (g b : Nat) (h : TabAt w g (some b) [(2, 9)] 2) : Calls Try.prog 17 #[.pointer (some ⟨g, 0, none⟩)] w (One1 w) := (hnodes_c w g (some b) _ 2 h).mono fun _ _ h => one1 h
theorem own2_ge {B g : Nat} {mb : Option Nat} (hg : B ≤ g) (hm : ∀ b, mb = some b → B ≤ b) : ∀ k, Own2 g mb k → B ≤ k := by
  rintro k (rfl | e)
  · exact hg
  · exact hm _ e
theorem known20_c (w : World) : Calls Try.prog 7 #[] w (RetP (.bool true) w) := by
  go_enter Try.func7, Try.ntmps7
  go_wp2_with fail
  refine Calls.mono (hnew_c w) ?_
  rintro e w1 ⟨g, rfl, hg, h1, b1⟩
  have HG := Lib.hid hg
  have H1 := Lib.hid h1
  have HB1 := Lib.hid b1
  clear hg h1 b1
  go_wp2_with fail
  refine Calls.mono (k20_open1 w1 g H1.out) ?_
  rintro e w2 ⟨rfl, mb, h2, k2, hm⟩
  have HB2 := Lib.hid (HB1.out.trans (k2.below HB1.out.size (own2_ge (by have := HG.out; omega) (fun b e => by cases e))))
  obtain ⟨b, rfl⟩ : ∃ b, mb = some b := by
    cases mb with
    | none => have e : [((1 : Int), (5 : Int))] = [] := h2.mp; cases e
    | some b => exact ⟨b, rfl⟩
  have HM := Lib.hid (Nat.le_trans HB1.out.size (hm b rfl))
  have H2 := Lib.hid h2
  have HS := Lib.hid (show ∀ k, Own2 g (some b) k → w.heap.size ≤ k from own2_ge (by have := HG.out; omega) (fun c e => by injection e with e; have := HM.out; omega))
  clear h2 k2 hm
  go_wp2_with fail
  refine Calls.mono (k20_for w2 g (some b) H2.out) ?_
  rintro e w3 ⟨rfl, b3⟩
  have H3 := Lib.hid (H2.out.below b3)
  have HB3 := Lib.hid (HB2.out.trans (b3.mono HB2.out.size))
  clear b3
  go_wp2_with fail
  refine Calls.mono (k20_open2 w3 g b H3.out) ?_
  rintro e w4 ⟨rfl, h4, k4⟩
  have H4 := Lib.hid h4
  have HB4 := Lib.hid (HB3.out.trans (k4.below HB3.out.size HS.out))
  clear h4 k4
  go_wp2_with fail
  refine Calls.mono (k20_get1 w4 g b H4.out) ?_
  rintro e w5 ⟨rfl, rfl⟩
  have hbA := Gw.alloc w5 (.cells #[.int .i64 0, .int .i64 0, .int .i64 0, .int .i64 0, .int .i64 9] 3)
  have H5 := Lib.hid (H4.out.below hbA)
  have HB5 := Lib.hid (HB4.out.trans (hbA.mono HB4.out.size))
  have HR := Lib.hid (k20_ren _ g b w5.heap.size H5.out (Bk.new w5 3 _) (by have := H4.out.blk.lt; omega) (by have := H4.out.mp.lt b rfl; omega))
  clear hbA
  go_wp2_with fail
  refine Calls.mono HR.out ?_
  rintro e w6 ⟨rfl, h6, k6⟩
  have H6 := Lib.hid h6
  have HB6 := Lib.hid (HB5.out.trans (k6.below HB5.out.size HS.out))
  clear h6 k6 HR
  go_wp2_with fail
  refine Calls.mono (k20_get2 w6 g b H6.out) ?_
  rintro e w7 ⟨rfl, rfl⟩
  go_wp2_with fail
  refine Calls.mono (k20_close w7 g b H6.out) ?_
  rintro e w8 ⟨rfl, h8, k8⟩
  have H8 := Lib.hid h8
  have HB8 := Lib.hid (HB6.out.trans (k8.below HB6.out.size HS.out))
  clear h8 k8
  go_wp2_with fail
  refine Calls.mono (k20_live w8 g b H8.out) ?_
  rintro e w9 ⟨A9, c9, rfl, b9⟩
  have H9 := Lib.hid (H8.out.below b9)
  have HB9 := Lib.hid (HB8.out.trans (b9.mono HB8.out.size))
  clear b9
  go_wp2_with fail
  refine Calls.mono (k20_nodes w9 g b H9.out) ?_
  rintro e w10 ⟨A10, c10, rfl, b10⟩
  have HB10 := Lib.hid (HB9.out.trans (b10.mono HB9.out.size))
  clear b10
  go_wp2_with fail
  go_ret
  exact ⟨rfl, HB10.out⟩
end Go.Proofs.Ytflocdghpnjoaaa
