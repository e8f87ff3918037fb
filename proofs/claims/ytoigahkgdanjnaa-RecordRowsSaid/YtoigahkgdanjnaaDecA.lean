/- bytes.Clone, and what codec.Of makes. Conditions: lengths. -/
import Derived.Test.YtoigahkgdanjnaaEncC
namespace Go.Proofs.Ytoigahkgdanjnaa
set_option linter.unusedVariables false
set_option linter.unusedSimpArgs false
open Go.RowKit
theorem ow_addr {α : Type} {f : α → Value} {E : TypeId} {w : World} {base n c : Nat} {A : Option Addr} {xs : List α} (h : Ow f E w base (.slice A n c) xs) : ∀ a, A = some a → base ≤ a.block ∧ a.block < w.heap.size := by
  rintro a rfl
  rcases h.2 with ⟨e, _⟩ | ⟨g, cap, cur, e, hB, hh, _⟩
  · cases e
  · injection e with e1
    injection e1 with e1
    subst e1
    refine ⟨hB, ?_⟩
    rcases Nat.lt_or_ge g w.heap.size with hl | hl
    · exact hl
    · rw [Array.getElem?_eq_none hl] at hh; cases hh
def CloneP (bs : List (BitVec 8)) (w : World) (e : Ending) (w' : World) : Prop := ∃ A c, e = .returned (.slice A bs.length c) ∧ bs.length ≤ c ∧ Rd b8 w' w'.heap.size A bs ∧ Below w.heap.size w w' ∧ ∀ a, A = some a → w.heap.size ≤ a.block ∧ a.block < w'.heap.size
set_option maxHeartbeats 400000
set_option maxRecDepth 100000
theorem clone_c (bs : List (BitVec 8)) (A : Option Addr) (c : Nat) (w : World) (hr : Rd b8 w w.heap.size A bs) (hl : bs.length ≤ 1073741824) : Calls Try.prog 32 #[.slice A bs.length c] w (CloneP bs w) := by
  have hn := fun (a : Option Addr) (n c : Nat) (W : World) => Lib.run_eql_slice_nil (P := Try.prog) W 25 5 a n c 0 0 (by kernel_rfl)
  rcases A with _ | ad
  · have hb : bs = [] := by
      cases bs with
      | nil => rfl
      | cons x xs => obtain ⟨ad, e, _⟩ := hr 0 (by simp); cases e
    subst hb
    go_enter Try.func32, Try.ntmps32
    go_wp2
    go_ret
    exact ⟨none, 0, rfl, Nat.le_refl _, Rd.nil, (by repeat (first | with_reducible assumption | with_reducible exact Below.refl _ _ | with_reducible apply bdN | with_reducible apply Below.drew | with_reducible refine Below.alloc ?_ (by simp) _ | with_reducible refine Below.setCell ?_ (by simp) _)), fun a e => by cases e⟩
  · go_enter Try.func32, Try.ntmps32
    go_wp2_with (at_builtin; refine wp_app one8 b8_one rfl (.tmp 5) (.tmp 6) rfl w.heap.size _ [] rfl (ow_empty b8 5 w w.heap.size (Nat.le_refl _)) (some ad) bs.length c bs rfl rfl w.heap.size (hr.alloc (Nat.le_refl _) _) (by simp; omega) (by decide) (by simp) ?_; intro v4 w4 ho4 hb4 hg4 hv4)
    rw [List.nil_append] at ho4
    obtain ⟨A4, c4, rfl, hc4⟩ := ho4.form
    go_ret
    exact ⟨A4, c4, rfl, hc4, ho4.rd, (Gw.alloc w _).trans hb4, ow_addr ho4⟩
/-- Block g holds a reader of the bytes bs, in another block, with an error's number. -/
structure DecAt (w : World) (g : Nat) (bs : List (BitVec 8)) (err : Int) : Prop where
  ex : ∃ A c, Bk w g 73 #[.slice A bs.length c, .int .i64 err] ∧ bs.length ≤ c ∧ Rd b8 w w.heap.size A bs ∧ ∀ a, A = some a → a.block ≠ g
/-- Of what was there block g alone may have turned. -/
structure Only (w w' : World) (g : Nat) : Prop where
  os : w'.os = w.os
  tape : w'.tape = w.tape
  output : w'.output = w.output
  size : w.heap.size ≤ w'.heap.size
  block : ∀ k, k < w.heap.size → k ≠ g → w'.heap[k]? = w.heap[k]?
theorem Only.refl (w : World) (g : Nat) : Only w w g := ⟨rfl, rfl, rfl, Nat.le_refl _, fun _ _ _ => rfl⟩
theorem Only.trans {a b c : World} {g : Nat} (h : Only a b g) (k : Only b c g) : Only a c g :=
  ⟨k.os.trans h.os, k.tape.trans h.tape, k.output.trans h.output, Nat.le_trans h.size k.size, fun i hi h1 => (k.block i (Nat.lt_of_lt_of_le hi h.size) h1).trans (h.block i hi h1)⟩
theorem Only.of {a b : World} {g : Nat} (h : Below a.heap.size a b) : Only a b g := ⟨h.os, h.tape, h.output, h.size, fun k hk _ => h.block k hk⟩
theorem Only.set (w : World) (g i : Nat) (u : Value) : Only w (w.setCell ⟨g, i, none⟩ u) g := ⟨rfl, rfl, rfl, by simp [World.setCell], fun k _ hne => Below.heap_setCell _ _ _ _ hne⟩
theorem Only.drew {a b : World} {g : Nat} (h : Only a b g) : Only a b.drew g := ⟨h.os, h.tape, h.output, h.size, h.block⟩
theorem Only.below {a b : World} {g B : Nat} (h : Only a b g) (hB : B ≤ g) (hs : g < a.heap.size) : Below B a b := ⟨h.os, h.tape, h.output, h.size, fun k hk => h.block k (by omega) (by omega)⟩
theorem Rd.only {α : Type} {f : α → Value} {w w' : World} {g : Nat} {A : Option Addr} {xs : List α} (h : Rd f w w.heap.size A xs) (hm : Only w w' g) (hap : ∀ a, A = some a → a.block ≠ g) : Rd f w' w'.heap.size A xs := fun j hj => by
  obtain ⟨ad, e, hb, hc⟩ := h j hj
  refine ⟨ad, e, Nat.lt_of_lt_of_le hb hm.size, ?_⟩
  rw [← hc]
  exact World.cell?_of_block (by rw [add_block]; exact hm.block _ hb (hap ad e))
theorem of_c (bs : List (BitVec 8)) (A : Option Addr) (c : Nat) (w : World) (hr : Rd b8 w w.heap.size A bs) (hl : bs.length ≤ 1073741824) :
    Calls Try.prog 24 #[.slice A bs.length c] w fun e w' => ∃ g, e = .returned (.pointer (some ⟨g, 0, none⟩)) ∧ w.heap.size ≤ g ∧ g < w'.heap.size ∧ DecAt w' g bs 0 ∧ Below w.heap.size w w' := by
  have HC := Lib.hid (clone_c bs A c w hr hl)
  go_enter Try.func24, Try.ntmps24
  go_wp2_with fail
  refine Calls.mono HC.out ?_
  rintro e w1 ⟨A1, c1, rfl, hc1, hr1, hb1, ha1⟩
  go_wp2_with fail
  go_ret
  refine ⟨_, rfl, hb1.size, by simp, ⟨A1, c1, Bk.new w1 73 _, hc1, (hr1.alloc (Nat.le_refl _) _).more (by simp), fun a e => by have := (ha1 a e).2; omega⟩, hb1.trans ((Gw.alloc w1 _).mono hb1.size)⟩
end Go.Proofs.Ytoigahkgdanjnaa
