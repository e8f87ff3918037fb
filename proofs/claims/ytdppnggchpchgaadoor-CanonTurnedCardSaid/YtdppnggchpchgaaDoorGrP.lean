/- bytes.Clone, slices.Clone of numbers and of roots. Conditions: lengths. -/
import Derived.Test.YtdppnggchpchgaaDoorGrO
import Derived.Lib.SmallJoins
namespace Go.Proofs.YtdppnggchpchgaaDoor
set_option linter.unusedVariables false
set_option linter.unusedSimpArgs false
open Go.RowKit
/-- A new row that the call made. -/
def NewP {α : Type} (f : α → Value) (E : TypeId) (xs : List α) (w : World) (e : Ending) (w' : World) : Prop := ∃ A c, e = .returned (.slice A xs.length c) ∧ Ow f E w' w.heap.size (.slice A xs.length c) xs ∧ Below w.heap.size w w'
theorem infoN : (Tryd.prog.info? 52).map (fun i => (i.zero, i.size, i.bytes)) = some (some (.agg #[.slice none 0 0, .slice none 0 0]), 2, 48) := by kernel_rfl
theorem infoR : (Tryd.prog.info? 55).map (fun i => (i.zero, i.size, i.bytes)) = some (some (.agg #[.string { data := #[] }, .int .i64 0]), 2, 24) := by kernel_rfl
theorem spot_add (a : Addr) (n j : Nat) (h : j ≠ 0) : (⟨(a.add n).block, (a.add n).off + j, none⟩ : Addr) = a.add (n + j) := by
  unfold Addr.add
  by_cases k : n = 0 <;> simp [k, h, Nat.add_assoc]
set_option maxHeartbeats 1000000
set_option maxRecDepth 100000
theorem clone_c (bs : List (BitVec 8)) (A : Option Addr) (c : Nat) (w : World) (hr : Rd b8 w w.heap.size A bs) (hl : bs.length ≤ 1073741824) : Calls Tryd.prog 28 #[.slice A bs.length c] w (NewP b8 5 bs w) := by
  have hn := fun (a : Option Addr) (n c : Nat) (W : World) => Lib.run_eql_slice_nil (P := Tryd.prog) W 45 5 a n c 0 0 (by kernel_rfl)
  rcases A with _ | ad
  · have hb : bs = [] := by
      cases bs with
      | nil => rfl
      | cons x xs => obtain ⟨ad, e, _⟩ := hr 0 (by simp); cases e
    subst hb
    go_enter Tryd.func28, Tryd.ntmps28
    go_wp2
    go_ret
    exact ⟨none, 0, rfl, Ow.nil_ _ _ _ _, (by repeat (first | with_reducible assumption | with_reducible exact Below.refl _ _ | with_reducible apply bdN | with_reducible apply Below.drew | with_reducible refine Below.alloc ?_ (by simp) _ | with_reducible refine Below.setCell ?_ (by simp) _))⟩
  · go_enter Tryd.func28, Tryd.ntmps28
    go_wp2_with (at_builtin; refine wp_app one8 b8_one rfl (.tmp 5) (.tmp 6) rfl w.heap.size _ [] rfl (ow_empty b8 5 w w.heap.size (Nat.le_refl _)) (some ad) bs.length c bs rfl rfl w.heap.size (hr.alloc (Nat.le_refl _) _) (by simp; omega) (by decide) (by simp) ?_; intro v4 w4 ho4 hb4 hg4 hv4)
    rw [List.nil_append] at ho4
    obtain ⟨A4, c4, rfl, hc4⟩ := ho4.form
    go_ret
    exact ⟨A4, c4, rfl, ho4, (Gw.alloc w _).trans hb4⟩
theorem icloneG_c (xs : List Int) (A : Option Addr) (c : Nat) (w : World) (hr : Rd iV w w.heap.size A xs) (hl : xs.length ≤ 1073741824) : Calls Tryd.prog 40 #[.slice A xs.length c] w (NewP iV 3 xs w) := by
  have hn := fun (a : Option Addr) (n c : Nat) (W : World) => Lib.run_eql_slice_nil (P := Tryd.prog) W 40 3 a n c 0 0 (by kernel_rfl)
  rcases A with _ | ad
  · have hb : xs = [] := by
      cases xs with
      | nil => rfl
      | cons x xs => obtain ⟨ad, e, _⟩ := hr 0 (by simp); cases e
    subst hb
    go_enter Tryd.func40, Tryd.ntmps40
    go_wp2
    go_ret
    exact ⟨none, 0, rfl, Ow.nil_ _ _ _ _, (by repeat (first | with_reducible assumption | with_reducible exact Below.refl _ _ | with_reducible apply bdN | with_reducible apply Below.drew | with_reducible refine Below.alloc ?_ (by simp) _ | with_reducible refine Below.setCell ?_ (by simp) _))⟩
  · go_enter Tryd.func40, Tryd.ntmps40
    go_wp2_with (at_builtin; refine wp_app oneI iV_one rfl (.tmp 5) (.tmp 6) rfl w.heap.size _ [] rfl (ow_empty iV 3 w w.heap.size (Nat.le_refl _)) (some ad) xs.length c xs rfl rfl w.heap.size (hr.alloc (Nat.le_refl _) _) (by simp; omega) (by decide) (by simp) ?_; intro v4 w4 ho4 hb4 hg4 hv4)
    rw [List.nil_append] at ho4
    obtain ⟨A4, c4, rfl, hc4⟩ := ho4.form
    go_ret
    exact ⟨A4, c4, rfl, ho4, (Gw.alloc w _).trans hb4⟩
theorem rcs_len (rs : List Rv) : (rs.flatMap Rv.cs).length = rs.length * 2 := by
  induction rs with
  | nil => rfl
  | cons x r ih => rw [List.flatMap_cons, List.length_append, ih]; simp [Rv.cs]; omega
theorem rcs_one (rs : List Rv) : ∀ u ∈ rs.flatMap Rv.cs, u.oneCell' = true := by
  intro u hu
  obtain ⟨x, _, hx⟩ := List.mem_flatMap.1 hu
  simp only [Rv.cs, List.mem_cons, List.not_mem_nil, or_false] at hx
  rcases hx with rfl | rfl <;> rfl
theorem RoRow.news {w : World} {B : Nat} {ad : Addr} {rs : List Rv} (h : RoRow w B (some ad) rs) : ∀ (j : Nat) (u : Value), (rs.flatMap Rv.cs)[j]? = some u → w.cell? (ad.add j) = some u := by
  intro j u hu
  have hj := (List.getElem?_eq_some_iff.1 hu).1
  rw [rcs_len] at hj
  obtain ⟨i, k, hk, rfl⟩ : ∃ i k, k < 2 ∧ j = i * 2 + k := ⟨j / 2, j % 2, by omega, by omega⟩
  have hi : i < rs.length := by omega
  rw [flat2 Rv.cs (fun _ => rfl) rs i k hi hk] at hu
  obtain ⟨ad', e, _, h1, h2⟩ := h i hi
  injection e with e
  subst e
  rcases (show k = 0 ∨ k = 1 by omega) with rfl | rfl
  · rw [Nat.add_zero, h1]; exact hu
  · rw [spot_add _ _ _ (by decide)] at h2
    rw [h2]; exact hu
theorem owns_empty2 (w : World) (E : TypeId) (base : Nat) (hb : base ≤ w.heap.size) : (w.alloc (.cells #[] E)).ownsRow base E 2 (.slice (some ⟨w.heap.size, 0, none⟩) 0 0) 0 [] :=
  World.ownsRow_lit w #[] 0 hb (by simp [maxLen]) rfl
theorem rclone_c (rs : List Rv) (A : Option Addr) (c : Nat) (w : World) (hr : RoRow w w.heap.size A rs) (hl : rs.length ≤ 1000000) : Calls Tryd.prog 39 #[.slice A rs.length c] w fun e w' => ∃ A2 c2, e = .returned (.slice A2 rs.length c2) ∧ ROwn w' w.heap.size (.slice A2 rs.length c2) rs ∧ Below w.heap.size w w' := by
  have hnl := fun (a : Option Addr) (n c : Nat) (W : World) => Lib.run_eql_slice_nil (P := Tryd.prog) W 23 55 a n c 0 0 (by kernel_rfl)
  rcases A with _ | ad
  · have hb : rs = [] := by
      cases rs with
      | nil => rfl
      | cons x xs => obtain ⟨ad, e, _⟩ := hr 0 (by simp); cases e
    subst hb
    go_enter Tryd.func39, Tryd.ntmps39
    go_wp2
    go_ret
    exact ⟨none, 0, rfl, ROwn.nil _ _, (by repeat (first | with_reducible assumption | with_reducible exact Below.refl _ _ | with_reducible apply bdN | with_reducible apply Below.drew | with_reducible refine Below.alloc ?_ (by simp) _ | with_reducible refine Below.setCell ?_ (by simp) _))⟩
  · obtain ⟨cs, hcs⟩ : ∃ cs, cs = rs.flatMap Rv.cs := ⟨_, rfl⟩
    have hcl := rcs_len rs
    have hc1 := rcs_one rs
    have hcn := (hr.below (Gw.alloc w (.cells #[] 55))).news
    unfold ROwn
    rw [← hcs] at hcl hc1 hcn ⊢
    obtain ⟨n, hn⟩ : ∃ n, n = rs.length := ⟨_, rfl⟩
    rw [← hn] at hcl hl ⊢
    have HC := Lib.hid (And.intro hcl (And.intro hc1 (And.intro hcn hl)))
    have HE := Lib.hid (owns_empty2 w 55 w.heap.size (Nat.le_refl _))
    obtain ⟨i0, hi, hz0, hz1, hz2⟩ := info_parts infoR
    have HI := Lib.hid (And.intro hi (And.intro hz0 (And.intro hz1 hz2)))
    clear hcl hc1 hcn hl hn hi hz0 hz1 hz2 hr hcs
    go_enter Tryd.func39, Tryd.ntmps39
    go_wp2_with (at_builtin; refine wp_appR 2 i0 Tryd.underlying23 HI.out.1 HI.out.2.1 HI.out.2.2.1 HI.out.2.2.2 (by rfl) (by decide) rfl (.tmp 5) (.tmp 6) rfl w.heap.size _ 0 [] rfl HE.out ad n c cs rfl HC.out.1 HC.out.2.2.1 HC.out.2.1 (by have := HC.out.2.2.2; unfold maxLen; omega) (by have := HC.out.2.2.2; omega) (by simp) ?_; intro v1 w1 ho1 hb1 _ _)
    rw [List.nil_append, Nat.zero_add] at ho1
    obtain ⟨A4, c4, rfl⟩ := own_form ho1
    go_ret
    exact ⟨A4, c4, rfl, ho1, (Gw.alloc w _).trans hb1⟩
end Go.Proofs.YtdppnggchpchgaaDoor
