/- A table of handles from a block on: what its methods do. Conditions: at most 256 handles. -/
import Derived.Test.YtflocdghpnjoaaaHdG
namespace Go.Proofs.Ytflocdghpnjoaaa
set_option linter.unusedVariables false
set_option linter.unusedSimpArgs false
open Go.RowKit Go.Maps
/-- Block g, from B on, is a table of handles. -/
def TabB (B : Nat) (w : World) (g : Nat) (l : List (Int × Int)) (last : Nat) : Prop := ∃ mb, TabAt w g mb l last ∧ ∀ k, Own2 g mb k → B ≤ k
section
variable {B : Nat} {w w' : World} {g : Nat} {l : List (Int × Int)} {last : Nat}
theorem TabB.below (h : TabB B w g l last) (hb : Below w.heap.size w w') : TabB B w' g l last := by
  obtain ⟨mb, h1, h2⟩ := h
  exact ⟨mb, h1.below hb, h2⟩
theorem TabB.lt (h : TabB B w g l last) : g < w.heap.size := by obtain ⟨mb, h1, h2⟩ := h; exact h1.blk.lt
theorem TabB.ge (h : TabB B w g l last) : B ≤ g := by obtain ⟨mb, h1, h2⟩ := h; exact h2 g (.inl rfl)
theorem hnew_b (w : World) : Calls Try.prog 8 #[] w fun e w' => ∃ g, e = .returned (.pointer (some ⟨g, 0, none⟩)) ∧ TabB w.heap.size w' g [] 0 ∧ Below w.heap.size w w' := by
  refine (hnew_c w).mono ?_
  rintro e w' ⟨g, rfl, hg, h1, h2⟩
  exact ⟨g, rfl, ⟨none, h1, own2_ge (by omega) (fun b e => by cases e)⟩, h2⟩
theorem hopen_b (h : TabB B w g l last) (hB : B ≤ w.heap.size) (n : Int) (hn : 1 ≤ n) (hM : n ≤ 9223372036854775807) (hl : l.length < 256) (hla : last < 1000000) :
    Calls Try.prog 9 #[.pointer (some ⟨g, 0, none⟩), .int .i64 n] w fun e w' => e = .returned (.tuple #[.int .i64 ((last + 1 : Nat) : Int), .int .i64 0]) ∧ TabB B w' g (l ++ [(((last + 1 : Nat) : Int), n)]) (last + 1) ∧ Below B w w' := by
  obtain ⟨mb, h1, h2⟩ := h
  refine (hopen_ok w g mb l last h1 n hn hM hl hla).mono ?_
  rintro e w' ⟨rfl, mb', h3, h4, h5⟩
  refine ⟨rfl, ⟨mb', h3, own2_ge (h2 g (.inl rfl)) (fun b e => ?_)⟩, h4.below hB h2⟩
  rcases h5 with h5 | h5 <;> rw [h5] at e
  · exact h2 b (.inr e)
  · injection e with e; omega
theorem hopenfull_b (h : TabB B w g l last) (n : Int) (hn : 1 ≤ n) (hl : 256 ≤ l.length) :
    Calls Try.prog 9 #[.pointer (some ⟨g, 0, none⟩), .int .i64 n] w fun e w' => e = .returned (.tuple #[.int .i64 0, .int .i64 6]) ∧ w' = w := by
  obtain ⟨mb, h1, h2⟩ := h
  exact hopen_full w g mb l last h1 n hn hl
theorem hget_b (h : TabB B w g l last) (k : Int) (hk : (Lit.int .i64 k).wf = true) :
    Calls Try.prog 18 #[.pointer (some ⟨g, 0, none⟩), .int .i64 k] w fun e w' => e = .returned (.tuple #[.int .i64 ((lookI l k).getD 0), .bool (lookI l k).isSome]) ∧ w' = w := by
  obtain ⟨mb, h1, h2⟩ := h
  exact hget_c w g mb l last h1 k hk
theorem hclose_b (h : TabB B w g l last) (hB : B ≤ w.heap.size) (k : Int) (hk : (Lit.int .i64 k).wf = true) :
    Calls Try.prog 12 #[.pointer (some ⟨g, 0, none⟩), .int .i64 k] w fun e w' => e = .returned (.bool (lookI l k).isSome) ∧ TabB B w' g (offI l k) last ∧ Below B w w' := by
  obtain ⟨mb, h1, h2⟩ := h
  refine (hclose_c w g mb l last h1 k hk).mono ?_
  rintro e w' ⟨rfl, h3, h4⟩
  exact ⟨rfl, ⟨mb, h3, h2⟩, h4.below hB h2⟩
theorem hfor_b (h : TabB B w g l last) (n : Int) (j0 : Nat) (hj0 : j0 < l.length) (hn : l[j0].2 = n) (ha : ∀ j (hj : j < j0), l[j].2 ≠ n) :
    Calls Try.prog 10 #[.pointer (some ⟨g, 0, none⟩), .int .i64 n] w fun e w' => e = .returned (.tuple #[.int .i64 l[j0].1, .int .i64 0]) ∧ TabB B w' g l last ∧ Below w.heap.size w w' := by
  have h' := h
  obtain ⟨mb, h1, h2⟩ := h
  refine (hfor_hit w g mb l last h1 n j0 hj0 hn ha).mono ?_
  rintro e w' ⟨rfl, hb⟩
  exact ⟨rfl, h'.below hb, hb⟩
theorem hfornew_b (h : TabB B w g l last) (hB : B ≤ w.heap.size) (n : Int) (hn : 1 ≤ n) (hM : n ≤ 9223372036854775807) (hl : l.length < 256) (hla : last < 1000000) (ha : ∀ j (hj : j < l.length), l[j].2 ≠ n) :
    Calls Try.prog 10 #[.pointer (some ⟨g, 0, none⟩), .int .i64 n] w fun e w' => e = .returned (.tuple #[.int .i64 ((last + 1 : Nat) : Int), .int .i64 0]) ∧ TabB B w' g (l ++ [(((last + 1 : Nat) : Int), n)]) (last + 1) ∧ Below B w w' := by
  have h' := h
  obtain ⟨mb, h1, h2⟩ := h
  refine (hfor_miss w g mb l last h1 n _ _ ha (fun W w' => TabB B w' g (l ++ [(((last + 1 : Nat) : Int), n)]) (last + 1) ∧ Below B W w') (fun W hW => hopen_b (h'.below hW) (Nat.le_trans hB hW.size) n hn hM hl hla)).mono ?_
  rintro e w' ⟨rfl, W, hW, h3, h4⟩
  exact ⟨rfl, h3, (hW.mono hB).trans h4⟩
theorem hforfull_b (h : TabB B w g l last) (n : Int) (hn : 1 ≤ n) (hl : 256 ≤ l.length) (ha : ∀ j (hj : j < l.length), l[j].2 ≠ n) :
    Calls Try.prog 10 #[.pointer (some ⟨g, 0, none⟩), .int .i64 n] w fun e w' => e = .returned (.tuple #[.int .i64 0, .int .i64 6]) ∧ TabB B w' g l last ∧ Below w.heap.size w w' := by
  have h' := h
  obtain ⟨mb, h1, h2⟩ := h
  refine (hfor_miss w g mb l last h1 n _ _ ha (fun W w' => w' = W) (fun W hW => hopenfull_b (h'.below hW) n hn hl)).mono ?_
  rintro e w' ⟨rfl, W, hW, h3⟩
  subst h3
  exact ⟨rfl, h'.below hW, hW⟩
theorem hlive_b (h : TabB B w g l last) : Calls Try.prog 16 #[.pointer (some ⟨g, 0, none⟩)] w (NewRow w (l.map (·.1))) := by
  obtain ⟨mb, h1, h2⟩ := h
  exact hlive_c w g mb l last h1
theorem hnodes_b (h : TabB B w g l last) : Calls Try.prog 17 #[.pointer (some ⟨g, 0, none⟩)] w (NewRow w (l.map (·.2))) := by
  obtain ⟨mb, h1, h2⟩ := h
  exact hnodes_c w g mb l last h1
end
end Go.Proofs.Ytflocdghpnjoaaa
