/- Put where one has to go; the hand's way over marked frames. Conditions: lengths. -/
import Derived.Test.YthmaofbnhfgfaaaCmN
namespace Go.Proofs.Ythmaofbnhfgfaaa
set_option linter.unusedVariables false
set_option linter.unusedSimpArgs false
open Go.RowKit Go.Maps
set_option maxHeartbeats 1000000
set_option maxRecDepth 100000
theorem Stops.data {N n : Nat} {fs fs' : List Fr} {h i : Nat} (s : Stops N n fs h fs' i) : ∀ f ∈ fs', ∃ f0 ∈ fs, f.A = f0.A ∧ f.b = f0.b := by
  induction s with
  | here => exact fun f hf => ⟨f, hf, rfl, rfl⟩
  | pin n fs h fs' i hh h1 r ih => exact ih
  | mrk n fs h fs' i hh h1 h2 r ih =>
    intro f hf
    obtain ⟨f0, h0, e1, e2⟩ := ih f hf
    rcases List.mem_or_eq_of_mem_set h0 with e | e
    · exact ⟨f0, e, e1, e2⟩
    · rw [e] at e1 e2; exact ⟨fs[h], List.getElem_mem hh, e1, e2⟩
section
variable {w : World} {g fb mb N : Nat} {fs : List Fr} {hand : Nat} {tb : Tk}
theorem CaAt.nodup {ho : Option Nat} (h : CaAt w g fb mb N fs hand tb ho) : (tb.map Prod.fst).Nodup := by
  obtain ⟨D, _, _, _, _, h5⟩ := h.map
  exact h5
theorem put_evict (h : CaAt w g fb mb N fs hand tb none) (k : K2) (hk : kW k) (hv : vOf tb k = none) (A : Option Addr) (bs : List (BitVec 8)) (n c : Nat) (hn : n = bs.length) (hl : n ≤ 1000000) (hr : Rd b8 w w.heap.size A bs) (hA : ∀ a, A = some a → bs ≠ [] → ¬ Cx g fb mb a.block) (dirty : Bool)
    (h1 : ∀ f ∈ fs, f.full = true) (K : Nat) (hK : K < N) (h2 : ∀ j (hj : j < fs.length), j < K → fs[j].pins ≠ 0) (h3 : ∀ hj : K < fs.length, fs[K].pins = 0) (m : Nat) (fs' : List Fr) (i : Nat) (hs : Stops N m fs hand fs' i) (hi : i < fs'.length) (htl : tb.length ≤ 100000) :
    Calls Try.prog 8 #[.pointer (some ⟨g, 0, none⟩), .agg #[.int .i64 k.1, .int .i64 k.2], .slice A n c, .bool dirty] w fun e w' => ∃ A2 c2, e = .returned (.tuple #[.agg (outF fs'[i]), .int .i64 0]) ∧ CaAt w' g fb mb N (fs'.set i (frN k bs dirty A2 c2)) ((i + 1) % N) (setK (delK tb fs'[i].k) k (i : Int)) none ∧ Kept (Cx g fb mb) w w' := by
  refine put_new h k hk hv A bs n c hn hl hr hA dirty i fs'[i].k.1 fs'[i].k.2 fs'[i].A fs'[i].b.length fs'[i].c fs'[i].dirty true fs' ((i + 1) % N) (delK tb fs'[i].k) hi (by rw [vOf_del, hv]; split <;> rfl) (by unfold delK; exact Nat.le_trans (List.length_filter_le _ _) htl)
    (fun f hf a e hb => by
      obtain ⟨f0, h0, e1, e2⟩ := hs.data f hf
      exact h.lows f0 h0 a (by rw [← e1]; exact e) (by rw [← e2]; exact hb)) ?_
  intro W hW
  refine (room_evict (h.below hW) h1 K hK h2 h3 m fs' i hs).mono (fun e w' he => ?_)
  obtain ⟨_, q1, q2, q3⟩ := he
  exact ⟨q1, q2, q3⟩
end
/-- The hand's way over d marked frames. -/
theorem stop_seg (N : Nat) : ∀ (d h : Nat) (fs : List Fr), h + d ≤ N → fs.length = N → (∀ j (hj : j < fs.length), h ≤ j → j < h + d → fs[j].pins = 0 ∧ fs[j].mrk = true) →
    ∃ fs1, fs1.length = N ∧ (∀ j (hj : j < fs.length) (hj1 : j < fs1.length), fs1[j] = if h ≤ j ∧ j < h + d then { fs[j] with mrk := false } else fs[j]) ∧ ∀ n fs' i, Stops N n fs1 ((h + d) % N) fs' i → ∃ n', Stops N n' fs (h % N) fs' i
  | 0, h, fs, _, hl, _ => ⟨fs, hl, fun j hj hj1 => by rw [if_neg (by omega)], fun n fs' i s => ⟨n, s⟩⟩
  | d + 1, h, fs, hd, hl, hm => by
    have hh : h < fs.length := by omega
    obtain ⟨p1, p2⟩ := hm h hh (Nat.le_refl _) (by omega)
    obtain ⟨fs1, q1, q2, q3⟩ := stop_seg N d (h + 1) (fs.set h { fs[h] with mrk := false }) (by omega) (by rw [List.length_set]; exact hl) (fun j hj h1 h2 => by
      rw [List.getElem_set_ne (by omega)]
      exact hm j (by rw [List.length_set] at hj; exact hj) (by omega) (by omega))
    refine ⟨fs1, q1, fun j hj hj1 => ?_, fun n fs' i s => ?_⟩
    · rw [q2 j (by rw [List.length_set]; exact hj) hj1]
      by_cases e : h = j
      · subst e
        rw [if_neg (by omega), if_pos (by omega), List.getElem_set_self]
      · rw [List.getElem_set_ne e]
        by_cases e2 : h + 1 ≤ j ∧ j < h + 1 + d
        · rw [if_pos e2, if_pos (by omega)]
        · rw [if_neg e2, if_neg (by omega)]
    · rw [show h + (d + 1) = h + 1 + d from by omega] at s
      obtain ⟨n', s'⟩ := q3 n fs' i s
      have hm : h % N = h := Nat.mod_eq_of_lt (by omega)
      rw [hm]
      exact ⟨n' + 1, .mrk n' fs h fs' i hh p1 p2 s'⟩
end Go.Proofs.Ythmaofbnhfgfaaa
