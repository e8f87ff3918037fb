/- Keys of a map that are structs: maps.Keys, slices.Collect: all of them, each once, in some order. Conditions: lengths. -/
import Derived.Test.YtgddehhigamkkaaKyB
import Derived.Shelf.SlIterI.Collect
namespace Go.Proofs.Ytgddehhigamkkaa
set_option linter.unusedVariables false
set_option linter.unusedSimpArgs false
open Go.RowKit Go.Maps Go.Sort Go.Shelf
set_option maxRecDepth 100000
set_option maxHeartbeats 2000000
def CollectedK (D0 : DataW Unit) (left : Lit → Bool) (ss : List (Int × Int)) : Prop := ss.Nodup ∧ (∀ x ∈ ss, kW x) ∧ ∀ x, kW x → (x ∈ ss ↔ (has D0 (keyL x) = true ∧ left (keyL x) = false))
theorem CollectedK.start (D0 : DataW Unit) : CollectedK D0 (has D0) [] := ⟨List.nodup_nil, fun x h => (by cases h), fun x _ => by cases has D0 (keyL x) <;> simp⟩
theorem CollectedK.step {D0 : DataW Unit} {left : Lit → Bool} {ss : List (Int × Int)} (h : CollectedK D0 left ss) {x : Int × Int} (hx : kW x) {y : DataW Unit} (hlk : left (keyL x) = true) (hat : ∀ zd, D0.atKey (keyL x) zd = y) : CollectedK D0 (fun z => left z && !z.sameKey (keyL x)) (ss ++ [x]) := by
  have hhas : has D0 (keyL x) = true := has_true_of_atKey hat
  have hnew : x ∉ ss := fun hm => by have := ((h.2.2 x hx).1 hm).2; rw [hlk] at this; cases this
  refine ⟨List.nodup_append.2 ⟨h.1, by simp, fun a ha b hb => by simp at hb; subst hb; exact fun e => hnew (e ▸ ha)⟩, fun z hz => ?_, fun z hz => ?_⟩
  · rcases List.mem_append.1 hz with e | e
    · exact h.2.1 z e
    · rw [List.mem_singleton] at e; subst e; exact hx
  · by_cases hy : z = x
    · subst hy; simp [hhas, WideAt.sameKey_self (keyL_key hz)]
    · have hne : (keyL z).sameKey (keyL x) = false := sameKey_ne (fun e => hy (keyL_inj hz hx e))
      simp only [List.mem_append, List.mem_singleton, hy, or_false, hne, Bool.not_false, Bool.and_true]
      exact h.2.2 z hz
theorem CollectedK.perm {D0 : DataW Unit} {left : Lit → Bool} {ss m : List (Int × Int)} (h : CollectedK D0 left ss) (hh : ∀ p, kW p → has D0 (keyL p) = decide (p ∈ m)) (hw : ∀ p ∈ m, kW p) (hn : m.Nodup) (hl : ∀ kl, left kl = false) : ss.Perm m := by
  refine (List.perm_ext_iff_of_nodup h.1 hn).2 fun x => ?_
  constructor
  · intro hx
    have := ((h.2.2 x (h.2.1 x hx)).1 hx).1
    rw [hh x (h.2.1 x hx)] at this
    simpa using this
  · intro hx
    exact (h.2.2 x (hw x hx)).2 ⟨by rw [hh x (hw x hx)]; simpa using hx, hl _⟩
theorem keys1K_in (F : Fence) (n : Nat) (h10 : F.fn 31) (hro : F.round = none) (hn : 1 ≤ n) (l Bm b : Nat) (m : List (Int × Int)) (J : List (Int × Int) → World → Prop)
    (hY : ∀ pre x W, J pre W → pre.length < m.length → YieldAt F (n - 1) Try.prog l #[kV x] W fun e W' => e = .returned (.bool true) ∧ J (pre ++ [x]) W' ∧ KeepsWalks W W')
    (W : World) (hJ : AbidesFrom W.heap.size J) (hm : W.cell? ⟨Bm, 0, none⟩ = some (.map (some b))) (hset : SetIs W b m) (h0 : J [] W) :
    CallsIn F n Try.prog 31 #[.func (.yield l) #[] #[], .pointer (some ⟨Bm, 0, none⟩)] W fun e W' => (∃ v, e = .returned v) ∧ ∃ ss : List (Int × Int), ss.Perm m ∧ J ss W' := by
  obtain ⟨D0, hown, hsz, hhas, hwf, hnd⟩ := hset
  refine callsIn_of_wp Try.func31 rfl h10 ?_ hro
  simp only [Try.ntmps31, List.size_toArray, List.length_cons, List.length_nil, Nat.reduceAdd, Nat.reduceSub, Array.replicate_succ, Array.replicate_zero, List.push_toArray, List.append_toArray, List.nil_append, List.cons_append]
  gi_wp2_with (first
    | (gi_at_range; refine wpListIn_range_own _ rfl _ 35 rfl 23 56 lawK Try.underlying35 unitElem b m.length D0 rfl hown ?_; intro w0 hrg0 hg0 hs0)
    | gi_in)
  go_frame
  gi_loopw [3] (fun _ wr => ∃ (left : Lit → Bool) (cnt : Nat) (ss : List (Int × Int)), wr.ranges Try.prog 23 unitElem b W.heap.size m.length D0 left cnt ∧ ss.length + cnt ≤ Maps.size D0 ∧ CollectedK D0 left ss ∧ J ss wr)
    (fun _ wr => wr.rangeLeft b W.heap.size)
  case atStart =>
    exact ⟨_, _, [], hrg0, by simp, CollectedK.start D0, hJ [] W w0 none h0 hg0 (fun r e => by cases e)⟩
  case round =>
    obtain ⟨left, cnt, ss, hrg, hcs, hC, hJs⟩ := hrel
    gi_wp2_with (first
      | (gi_at_next; refine wpListIn_next_ranges _ rfl _ rfl 23 lawK unitElem kV (fun _ : Unit => .agg #[]) (fun key kl hk => by obtain ⟨x, hx, _⟩ := key_inv hk; exact ⟨x, hx⟩) (fun v y hv => ⟨(), (unitElem_inv hv).1⟩) b W.heap.size m.length D0 left cnt rfl hrg ?_ ?_)
      | gi_in)
    · -- nothing is left
      intro hc0 hl0
      gi_wp2
      go_end0
      exact ⟨⟨_, rfl⟩, ss, hC.perm hhas hwf hnd hl0, hJs⟩
    · -- a key has come
      intro x1 x2 kl yd yp w2 cnt2 hkey hlk hv hat hrg2 hlt hg2 hs2 hen
      obtain ⟨x', ex, hx, rfl⟩ := key_inv hkey
      obtain rfl : (x1, x2) = x' := kV_inj ex
      have hJ2 : J ss w2 := hJ ss wr w2 (some W.heap.size) hJs hg2 (fun r e => by cases e; exact ⟨Nat.le_refl _, hrg.iter_walk⟩)
      have hJ3 : J ss (w2.alloc (.cells #[.int .i64 x1, .int .i64 x2] 23)) := hJ ss w2 _ none hJ2 (World.grownBy_alloc w2 _ none) (fun r e => by cases e)
      obtain ⟨fn, tmps, assign, body, hy, hR⟩ := hY ss (x1, x2) _ hJ3 (by omega)
      unfold kV at hen hy
      clear hs2
      gi_wp2
      refine hR.mono ?_
      rintro e W3 ⟨rfl, hJ4, hk3⟩
      gi_wp2
      have hrg3 := hrg2.of_walks ((KeepsWalks.alloc w2 _).trans hk3)
      go_roundw
      case rel => exact ⟨_, cnt2, ss ++ [(x1, x2)], hrg3, by simp; omega, hC.step hx hlk hat, hJ4⟩
      case measure => rw [hrg3.left_eq, hrg.left_eq]; exact hlt
theorem keysK_gives (F : Fence) (n : Nat) (h10 : F.fn 31) (hro : F.round = none) (hn : 1 ≤ n) (Bm b : Nat) (m : List (Int × Int)) (w : World) (hBm : Bm < w.heap.size)
    (hm : w.cell? ⟨Bm, 0, none⟩ = some (.map (some b))) (hset : SetIs w b m) :
    SeqGives F n Try.prog 31 #[.pointer (some ⟨Bm, 0, none⟩)] kV (fun ss => ss.Perm m) m.length w := fun l J W hW hJ hY h0 =>
  keys1K_in F n h10 hro hn l Bm b m J hY W hJ ((hW.cell (p := ⟨Bm, 0, none⟩) hBm).trans hm) (hset.below hW) h0
end Go.Proofs.Ytgddehhigamkkaa
