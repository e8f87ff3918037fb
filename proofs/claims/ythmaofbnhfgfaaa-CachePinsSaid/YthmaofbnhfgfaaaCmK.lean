/- cache.Cache's Put where nothing may go; cache.New. Conditions: lengths. -/
import Derived.Test.YthmaofbnhfgfaaaCmJ
namespace Go.Proofs.Ythmaofbnhfgfaaa
set_option linter.unusedVariables false
set_option linter.unusedSimpArgs false
open Go.RowKit Go.Maps
set_option maxRecDepth 100000
set_option maxHeartbeats 8000000
section
variable {w : World} {g fb mb N : Nat} {fs : List Fr} {hand : Nat} {tb : Tk}
theorem put_full (h : CaAt w g fb mb N fs hand tb none) (k : K2) (hk : kW k) (hv : vOf tb k = none) (A : Option Addr) (n c : Nat) (dirty : Bool) (h1 : ∀ f ∈ fs, f.full = true) (h2 : ∀ f ∈ fs, f.pins ≠ 0) :
    Calls Try.prog 8 #[.pointer (some ⟨g, 0, none⟩), .agg #[.int .i64 k.1, .int .i64 k.2], .slice A n c, .bool dirty] w fun e w' => e = .returned (.tuple #[outZ, .int .i64 6]) ∧ Below w.heap.size w w' := by
  obtain ⟨kx, ky⟩ := k
  obtain ⟨W1, hW1⟩ : ∃ W, W = (w.alloc (.cells #[.int .i64 kx, .int .i64 ky] 29)).alloc (.cells #[.int .i64 0, .int .i64 0, .slice none 0 0, .bool false, .bool false] 32) := ⟨_, rfl⟩
  have hb : Below w.heap.size w W1 := by rw [hW1]; exact (Gw.alloc w _).trans ((Gw.alloc _ _).mono (by simp))
  have hz : Bk W1 (w.heap.size + 1) 32 outC := by
    rw [hW1]
    have := Bk.new (w.alloc (.cells #[.int .i64 kx, .int .i64 ky] 29)) 32 #[.int .i64 0, .int .i64 0, .slice none 0 0, .bool false, .bool false]
    simpa [outC] using this
  have HA := Lib.hid (at_none (h.below hb) (kx, ky) hk hv)
  rw [hW1] at HA
  have HR := Lib.hid (fun W (hW : Below w.heap.size w W) => room_full (h.below hW) h1 h2)
  have HW1 := Lib.hid hW1
  have H1 := Lib.hid (And.intro hb hz)
  clear h hb hv hz hW1 h1 h2 hk
  go_enter Try.func8, Try.ntmps8
  go_wp2_with fail
  refine Calls.mono HA.out ?_
  rintro e w2 ⟨rfl, b2⟩
  rw [← HW1.out] at b2
  have H2 := Lib.hid (show Below w.heap.size w w2 ∧ Bk w2 (w.heap.size + 1) 32 outC from ⟨H1.out.1.trans (b2.mono H1.out.1.size), H1.out.2.below b2 H1.out.2.lt⟩)
  clear b2 HA
  unfold outZ at HR
  go_wp2_with fail
  refine Calls.mono (HR.out w2 H2.out.1) ?_
  rintro e w3 ⟨rfl, b3⟩
  have H3 := Lib.hid (show Below w.heap.size w w3 ∧ Bk (w3.alloc (.cells #[.int .i64 0, .int .i64 0, .slice none 0 0, .bool false, .bool false] 32)) (w.heap.size + 1) 32 outC from ⟨H2.out.1.trans (b3.mono H2.out.1.size), (H2.out.2.below b3 H2.out.2.lt).alloc _⟩)
  clear b3 HR
  go_wp2_with (refine wp_stR rfl 32 (.tmp 8) (.tmp 46) rfl (w.heap.size + 1) outC rfl rfl 32 outC H3.out.2 (by kernel_rfl) rfl (by kernel_rfl) ?_; intro w9 k9 b9 o9)
  refine bodyPost_ret (v := .tuple #[outZ, .int .i64 6]) (put_res rfl k9 rfl rfl) rfl ⟨rfl, (H3.out.1.trans ((Gw.alloc w3 _).mono H3.out.1.size)).trans (b9 w.heap.size (by omega))⟩
end
theorem madeF (N : Nat) : madeCells frZ.cs.toArray (N * 7) = fcA (List.replicate N frZ) := by
  apply Array.ext'
  apply List.ext_getElem?
  intro k
  have hr : (fcA (List.replicate N frZ)).toList = (List.replicate N frZ).flatMap Fr.cs := by unfold fcA; simp
  rw [hr]
  by_cases hk : k < N * 7
  · have hi : k / 7 < (List.replicate N frZ).length := by rw [List.length_replicate]; omega
    have hj : k % 7 < 7 := Nat.mod_lt _ (by decide)
    have h2 := fc_get (List.replicate N frZ) (k / 7) (k % 7) hi hj
    rw [show k / 7 * 7 + k % 7 = k by omega, List.getElem_replicate] at h2
    rw [h2]
    have hl : k % 7 < frZ.cs.length := hj
    unfold madeCells
    rw [List.getElem?_eq_getElem hl]
    simp only [Array.toList_map, Array.toList_range, List.getElem?_map, List.getElem?_range hk, Option.map_some]
    rw [show (frZ.cs.toArray).size = 7 from rfl]
    congr 1
    simp [hl]
  · rw [List.getElem?_eq_none (by have := size_madeCells frZ.cs.toArray (N * 7); rw [Array.length_toList, this]; omega), List.getElem?_eq_none (by rw [fc_len, List.length_replicate]; omega)]
theorem new_c (w : World) (N : Nat) (h1 : 1 ≤ N) (h2 : N ≤ 64) : Calls Try.prog 7 #[.int .i64 N] w fun e w' => ∃ g fb mb, e = .returned (.tuple #[.pointer (some ⟨g, 0, none⟩), .int .i64 0]) ∧ CaAt w' g fb mb N (List.replicate N frZ) 0 [] none ∧ (∀ k, Cx g fb mb k → w.heap.size ≤ k) ∧ Below w.heap.size w w' := by
  have q1 : (1 : Int) ≤ (N : Int) := by omega
  have q2 : (N : Int) ≤ 64 := by omega
  have hmk : ∀ W : World, (Instr.makeSlice 44 (.int .i64 (N : Int)) (.int .i64 (N : Int))).run Try.prog W = .ok (.slice (some ⟨W.heap.size, 0, none⟩) N N) (W.alloc (.cells (fcA (List.replicate N frZ)) 52)) := fun W => by
    have hi : (Try.prog.info? 52).map (fun i => (i.zero, i.size, i.bytes)) = some (some (.agg frZ.cs.toArray), 7, 72) := by kernel_rfl
    cases hq : Try.prog.info? 52 with
    | none => rw [hq] at hi; cases hi
    | some ii =>
      rw [hq] at hi
      simp only [Option.map_some, Option.some.injEq, Prod.mk.injEq] at hi
      have := run_make (P := Try.prog) W 44 52 ii _ Try.underlying44 hq hi.1 .i64 .i64 (N : Int) (N : Int) (by omega) (Int.le_refl _) (by rw [hi.2.2]; omega) (by omega)
      simp only [Int.toNat_natCast] at this
      rw [this, hi.2.1, ← madeF]
      rfl
  obtain ⟨cs, hcs⟩ : ∃ cs, cs = fcA (List.replicate N frZ) := ⟨_, rfl⟩
  rw [← hcs] at hmk
  have HN := Lib.hid (And.intro h1 (And.intro h2 hcs))
  have hmm := @run_makeMap Try.prog
  clear h1 h2 hcs
  go_enter Try.func7, Try.ntmps7
  go_wp2_with fail
  go_ret2
  obtain ⟨h1, h2, hcs⟩ := HN.out
  have hb1 := Gw.alloc w (.cells cs 52)
  have hb2 := Gw.alloc (w.alloc (.cells cs 52)) (.map #[] 0)
  have hb3 := Gw.alloc ((w.alloc (.cells cs 52)).alloc (.map #[] 0)) (.cells #[.slice (some ⟨w.heap.size, 0, none⟩) N N, .map (some (w.heap.size + 1)), .int .i64 0] 47)
  have hall : ∀ f ∈ List.replicate N frZ, f = frZ := fun f hf => List.eq_of_mem_replicate hf
  refine ⟨w.heap.size + 2, w.heap.size, w.heap.size + 1, by simp, ⟨?_, ?_, ?_, by rw [List.length_replicate], h1, h2, fun f hf => ?_, by omega, by omega, by omega, fun f hf => ?_, fun f hf => ?_, fun i hi _ e => ?_, fun k z e => (by cases e)⟩, fun k e => by rcases e with e | e | e <;> omega, (hb1.trans (hb2.mono (by simp))).trans (hb3.mono (by simp; omega))⟩
  · have := Bk.new ((w.alloc (.cells cs 52)).alloc (.map #[] 0)) 47 #[.slice (some ⟨w.heap.size, 0, none⟩) N N, .map (some (w.heap.size + 1)), .int .i64 0]
    simpa using this
  · have h := ((Bk.new w 52 cs).alloc (.map #[] 0)).alloc (.cells #[.slice (some ⟨w.heap.size, 0, none⟩) N N, .map (some (w.heap.size + 1)), .int .i64 0] 47)
    rw [← hcs]
    simpa using h
  · have h := (KmIs.made (w.alloc (.cells cs 52))).below hb3
    simpa using h
  · rw [hall f hf]
    exact ⟨Rd.nil, by decide, fun a e _ => by cases e⟩
  · rw [hall f hf]
    exact ⟨by decide, by decide⟩
  · rw [hall f hf]
    decide
  · rw [List.getElem_replicate] at e
    cases e
end Go.Proofs.Ythmaofbnhfgfaaa
