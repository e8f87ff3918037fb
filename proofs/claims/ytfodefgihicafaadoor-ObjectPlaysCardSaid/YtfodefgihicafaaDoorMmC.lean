/- slices.Clone of words; mem.Words. Conditions: lengths. -/
import Derived.Test.YtfodefgihicafaaDoorMmB
import Derived.Test.YtfodefgihicafaaDoorBel
import Derived.Lib.SmallJoins
namespace Go.Proofs.YtfodefgihicafaaDoor
set_option linter.unusedVariables false
set_option linter.unusedSimpArgs false
open Go.RowKit
theorem u64v_one : ∀ x : BitVec 64, (u64v x).oneCell' = true := fun _ => rfl
set_option maxHeartbeats 400000
set_option maxRecDepth 100000
theorem clone64_c (ws : List (BitVec 64)) (A : Option Addr) (c : Nat) (w : World) (hr : Rd u64v w w.heap.size A ws) (hl : ws.length ≤ 1000000) :
    Calls Tryd.prog 68 #[.slice A ws.length c] w (MkP u64v 68 ws w) := by
  have hn := fun (a : Option Addr) (n c : Nat) (W : World) => Lib.run_eql_slice_nil (P := Tryd.prog) W 22 68 a n c 0 0 (by kernel_rfl)
  rcases A with _ | ad
  · have hb : ws = [] := by
      cases ws with
      | nil => rfl
      | cons x xs => obtain ⟨ad, e, _⟩ := hr 0 (by simp); cases e
    subst hb
    go_enter Tryd.func68, Tryd.ntmps68
    go_wp2
    go_ret
    exact ⟨none, 0, rfl, Nat.le_refl _, Ow.nil_ _ _ _ _, (by repeat (first | with_reducible assumption | with_reducible exact Below.refl _ _ | with_reducible apply bdN | with_reducible apply Below.drew | with_reducible refine Below.alloc ?_ (by simp) _ | with_reducible refine Below.setCell ?_ (by simp) _))⟩
  · go_enter Tryd.func68, Tryd.ntmps68
    go_wp2_with (at_builtin; refine wp_app one64 u64v_one rfl (.tmp 5) (.tmp 6) rfl w.heap.size _ [] rfl (ow_empty u64v 68 w w.heap.size (Nat.le_refl _)) (some ad) ws.length c ws rfl rfl w.heap.size (hr.alloc (Nat.le_refl _) _) (by simp; omega) (by decide) (by simp) ?_; intro v4 w4 ho4 hb4 hg4 hv4)
    rw [List.nil_append] at ho4
    obtain ⟨A4, c4, rfl, hc4⟩ := ho4.form
    go_ret
    exact ⟨A4, c4, rfl, hc4, ho4, (Gw.alloc w _).trans hb4⟩
theorem words_c (w : World) (B g : Nat) (v : Value) (ws : List (BitVec 64)) (h : MemAt w B g v ws) (hl : ws.length ≤ 1000000) : Calls Tryd.prog 39 #[.pointer (some ⟨g, 0, none⟩)] w (MkP u64v 68 ws w) := by
  obtain ⟨A, c, e, hc⟩ := h.row.form
  subst e
  have c0 := h.blk.cell 0
  have HC := Lib.hid (clone64_c ws A c w h.row.rd hl)
  obtain ⟨N, hN⟩ : ∃ N, N = ws.length := ⟨_, rfl⟩
  rw [← hN] at c0 HC
  clear h hc hN hl
  go_enter Tryd.func39, Tryd.ntmps39
  go_wp2_with fail
  refine Calls.mono HC.out ?_
  rintro e w1 ⟨A2, c2, rfl, h2, r2, b2⟩
  go_wp2_with fail
  go_ret
  exact ⟨A2, c2, rfl, h2, r2, b2⟩
theorem of_in (w : World) (A : Option Addr) (c : Nat) (ws : List (BitVec 64)) (hr : Rd u64v w w.heap.size A ws) (hl : ws.length ≤ 8192) :
    Calls Tryd.prog 62 #[.slice A ws.length c] w fun e w' => ∃ g v, e = .returned (.tuple #[.pointer (some ⟨g, 0, none⟩), .int .i64 0]) ∧ MemAt w' w.heap.size g v ws ∧ Below w.heap.size w w' := by
  have HC := Lib.hid (clone64_c ws A c w hr (by omega))
  have t2 : decide ((8192 : Int) < (ws.length : Int)) = false := by simp; omega
  obtain ⟨N, hN⟩ : ∃ N, N = ws.length := ⟨_, rfl⟩
  rw [← hN] at HC t2 ⊢
  clear hr hN hl
  go_enter Tryd.func62, Tryd.ntmps62
  go_wp2_with fail
  refine Calls.mono HC.out ?_
  rintro e w1 ⟨A2, c2, rfl, h2, r2, b2⟩
  have HR := Lib.hid r2
  have HB := Lib.hid b2
  clear h2 r2 b2
  go_wp2_with fail
  go_ret2
  have hsz := HB.out.size
  refine ⟨w1.heap.size, _, rfl, ⟨Bk.new w1 _ _, hsz, HR.out.alloc _, fun e => ?_⟩, HB.out.alloc hsz _⟩
  have := (HR.out.lt _ e).2
  omega
end Go.Proofs.YtfodefgihicafaaDoor
