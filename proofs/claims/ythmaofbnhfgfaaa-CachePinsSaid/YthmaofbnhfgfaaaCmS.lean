/- Get where nothing is, Unpin; the hand's way over pinned frames. Conditions: lengths. -/
import Derived.Test.YthmaofbnhfgfaaaCmR
namespace Go.Proofs.Ythmaofbnhfgfaaa
set_option linter.unusedVariables false
set_option linter.unusedSimpArgs false
open Go.RowKit Go.Maps
set_option maxHeartbeats 1000000
set_option maxRecDepth 100000
section
variable {w : World} {g fb mb N : Nat} {fs : List Fr} {hand : Nat} {tb : Tk}
theorem get_miss (h : CaAt w g fb mb N fs hand tb none) (k : K2) (hk : kW k) (hv : vOf tb k = none) :
    Calls Try.prog 9 #[.pointer (some ⟨g, 0, none⟩), .agg #[.int .i64 k.1, .int .i64 k.2]] w fun e w' => e = .returned (.tuple #[.slice none 0 0, .bool false]) ∧ Below w.heap.size w w' := by
  obtain ⟨kx, ky⟩ := k
  have hb := Gw.alloc w (.cells #[.int .i64 kx, .int .i64 ky] 29)
  have HA := Lib.hid (at_none (h.below hb) (kx, ky) hk hv)
  have HB := Lib.hid hb
  clear h hb hv hk
  go_enter Try.func9, Try.ntmps9
  go_wp2_with fail
  refine Calls.mono HA.out ?_
  rintro e w2 ⟨rfl, b2⟩
  have HE := Lib.hid (HB.out.trans (b2.mono HB.out.size))
  clear b2 HA
  go_wp2_with fail
  go_ret2
  exact ⟨rfl, HE.out⟩
def Fr.unp (f : Fr) : Fr := { f with pins := 0 }
theorem unpin_hit (h : CaAt w g fb mb N fs hand tb none) (k : K2) (hk : kW k) (i : Nat) (hi : i < fs.length) (hf : fs[i].full = true) (hkk : fs[i].k = k) (hp : fs[i].pins = 1) :
    Calls Try.prog 12 #[.pointer (some ⟨g, 0, none⟩), .agg #[.int .i64 k.1, .int .i64 k.2]] w fun e w' => e = .returned (.bool true) ∧ CaAt w' g fb mb N (fs.set i fs[i].unp) hand tb none ∧ Kept (Cx g fb mb) w w' := by
  have hv : vOf tb k = some (i : Int) := by have := h.c1 i hi (by simp) hf; rw [hkk] at this; exact this
  obtain ⟨kx, ky⟩ := k
  have hb := Gw.alloc w (.cells #[.int .i64 kx, .int .i64 ky] 29)
  have h1 := h.below hb
  have HA := Lib.hid (at_some h1 (kx, ky) hk i (by rw [h.n]; exact hi) hv)
  have H1 := Lib.hid h1
  have HB := Lib.hid hb
  obtain ⟨f, hfe⟩ : ∃ f, f = fs[i] := ⟨_, rfl⟩
  rw [← hfe] at hp ⊢
  have HF := Lib.hid (And.intro hfe hp)
  clear h h1 hb hv hf hkk hfe hp
  go_enter Try.func12, Try.ntmps12
  go_wp2_with fail
  refine Calls.mono HA.out ?_
  rintro e w2 ⟨rfl, b2⟩
  have h2 := H1.out.below b2
  have c5 : w2.cell? ⟨fb, i * 7 + 5, none⟩ = some (.int .i64 1) := by have := (h2.cells hi).2.2.2.2.2.1; rw [← HF.out.1, HF.out.2] at this; exact this
  have r5 := h2.fr.free (i * 7 + 5)
  obtain ⟨h3, k3⟩ := h2.st i hi 5 (by decide) (.int .i64 0) f.unp (by rw [← HF.out.1]; rfl) (by rw [← HF.out.1]; rfl) (by rw [← HF.out.1]; rfl) (by have := h2.dat hi; rw [← HF.out.1] at this; exact this) (by show (0 : Nat) ≤ _; omega)
  have hbw : Kept (Cx g fb mb) w (w2.setCell ⟨fb, i * 7 + 5, none⟩ (.int .i64 0)) := ((Kept.of_below HB.out _).trans (Kept.of_below b2 _)).trans ((Kept.set _ _ _ _).more (fun k e => .inr (.inl e)))
  have H3 := Lib.hid (And.intro h3 hbw)
  clear h2 h3 k3 hbw b2 HA
  go_wp2_with fail
  go_ret
  exact ⟨rfl, H3.out⟩
end
theorem Stops.same {N n : Nat} {fs fs' : List Fr} {h i : Nat} (s : Stops N n fs h fs' i) : ∀ j (hj : j < fs.length) (hj' : j < fs'.length), ∃ b, fs'[j] = { fs[j] with mrk := b } := by
  induction s with
  | here fs h => exact fun j hj hj' => ⟨fs[j].mrk, rfl⟩
  | pin n fs h fs' i hh h1 r ih => exact ih
  | mrk n fs h fs' i hh h1 h2 r ih =>
    intro j hj hj'
    obtain ⟨b, e⟩ := ih j (by rw [List.length_set]; exact hj) hj'
    refine ⟨b, e.trans ?_⟩
    by_cases e2 : h = j
    · subst e2; rw [List.getElem_set_self]
    · rw [List.getElem_set_ne e2]
theorem stop_A (N K : Nat) : ∀ (d h : Nat) (fs : List Fr), fs.length = N → h < N → (h + d) % N = K → (∀ hK : K < fs.length, fs[K].pins = 0 ∧ fs[K].mrk = false) → ∃ n fs' i, Stops N n fs h fs' i
  | 0, h, fs, hl, hh, hk, hp => by
    have : h = K := by rw [Nat.add_zero, Nat.mod_eq_of_lt hh] at hk; exact hk
    subst this
    exact ⟨0, fs, h, .here fs h (by omega) (hp (by omega)).1 (hp (by omega)).2⟩
  | d + 1, h, fs, hl, hh, hk, hp => by
    have hn : (h + 1) % N < N := Nat.mod_lt _ (by omega)
    have hk2 : ((h + 1) % N + d) % N = K := by rw [Nat.mod_add_mod, ← hk]; congr 1; omega
    have hhl : h < fs.length := by omega
    by_cases h1 : fs[h].pins = 0
    · cases h2 : fs[h].mrk with
      | false => exact ⟨0, fs, h, .here fs h hhl h1 h2⟩
      | true =>
        have hne : h ≠ K := fun e => by subst e; have := (hp hhl).2; rw [h2] at this; cases this
        obtain ⟨n, fs', i, s⟩ := stop_A N K d ((h + 1) % N) (fs.set h { fs[h] with mrk := false }) (by rw [List.length_set]; exact hl) hn hk2 (fun hK => by
          rw [List.getElem_set_ne hne]
          exact hp (by rw [List.length_set] at hK; exact hK))
        exact ⟨n + 1, fs', i, .mrk n fs h fs' i hhl h1 h2 s⟩
    · obtain ⟨n, fs', i, s⟩ := stop_A N K d ((h + 1) % N) fs hl hn hk2 hp
      exact ⟨n + 1, fs', i, .pin n fs h fs' i hhl (by omega) s⟩
theorem stop_B (N K : Nat) : ∀ (d h : Nat) (fs : List Fr), fs.length = N → h < N → (h + d) % N = K → (∀ hK : K < fs.length, fs[K].pins = 0) → ∃ n fs' i, Stops N n fs h fs' i
  | d, h, fs, hl, hh, hk, hp => by
    have hn : (h + 1) % N < N := Nat.mod_lt _ (by omega)
    have hhl : h < fs.length := by omega
    have hat : h = K → ∃ n fs' i, Stops N n fs h fs' i := fun e => by
      subst e
      cases h2 : fs[h].mrk with
      | false => exact ⟨0, fs, h, .here fs h hhl (hp hhl) h2⟩
      | true =>
        obtain ⟨n, fs', i, s⟩ := stop_A N h (N - 1) ((h + 1) % N) (fs.set h { fs[h] with mrk := false }) (by rw [List.length_set]; exact hl) hn (by rw [Nat.mod_add_mod, show h + 1 + (N - 1) = h + N from by omega, Nat.add_mod_right, Nat.mod_eq_of_lt hh]) (fun hK => by
          rw [List.getElem_set_self]
          exact ⟨hp hhl, rfl⟩)
        exact ⟨n + 1, fs', i, .mrk n fs h fs' i hhl (hp hhl) h2 s⟩
    match d with
    | 0 => exact hat (by rw [Nat.add_zero, Nat.mod_eq_of_lt hh] at hk; exact hk)
    | d + 1 =>
      have hk2 : ((h + 1) % N + d) % N = K := by rw [Nat.mod_add_mod, ← hk]; congr 1; omega
      by_cases he : h = K
      · exact hat he
      by_cases h1 : fs[h].pins = 0
      · cases h2 : fs[h].mrk with
        | false => exact ⟨0, fs, h, .here fs h hhl h1 h2⟩
        | true =>
          obtain ⟨n, fs', i, s⟩ := stop_B N K d ((h + 1) % N) (fs.set h { fs[h] with mrk := false }) (by rw [List.length_set]; exact hl) hn hk2 (fun hK => by
            rw [List.getElem_set_ne he]
            exact hp (by rw [List.length_set] at hK; exact hK))
          exact ⟨n + 1, fs', i, .mrk n fs h fs' i hhl h1 h2 s⟩
      · obtain ⟨n, fs', i, s⟩ := stop_B N K d ((h + 1) % N) fs hl hn hk2 hp
        exact ⟨n + 1, fs', i, .pin n fs h fs' i hhl (by omega) s⟩
/-- The hand's way over frames that have a pin or a mark. -/
theorem stop_seg2 (N : Nat) : ∀ (d h : Nat) (fs : List Fr), h + d ≤ N → fs.length = N → (∀ j (hj : j < fs.length), h ≤ j → j < h + d → fs[j].pins = 0 → fs[j].mrk = true) →
    ∃ fs1, fs1.length = N ∧ (∀ j (hj : j < fs.length) (hj1 : j < fs1.length), ∃ b, fs1[j] = { fs[j] with mrk := b } ∧ (h ≤ j → j < h + d → fs[j].pins = 0 → b = false) ∧ ((j < h ∨ h + d ≤ j) → b = fs[j].mrk)) ∧ ∀ n fs' i, Stops N n fs1 ((h + d) % N) fs' i → ∃ n', Stops N n' fs (h % N) fs' i
  | 0, h, fs, _, hl, _ => ⟨fs, hl, fun j hj hj1 => ⟨fs[j].mrk, rfl, fun a b _ => by omega, fun _ => rfl⟩, fun n fs' i s => ⟨n, s⟩⟩
  | d + 1, h, fs, hd, hl, hm => by
    have hh : h < fs.length := by omega
    have hmod : h % N = h := Nat.mod_eq_of_lt (by omega)
    by_cases hp : fs[h].pins = 0
    · obtain ⟨fs1, q1, q2, q3⟩ := stop_seg2 N d (h + 1) (fs.set h { fs[h] with mrk := false }) (by omega) (by rw [List.length_set]; exact hl) (fun j hj h1 h2 => by
        rw [List.getElem_set_ne (by omega)]
        exact hm j (by rw [List.length_set] at hj; exact hj) (by omega) (by omega))
      refine ⟨fs1, q1, fun j hj hj1 => ?_, fun n fs' i s => ?_⟩
      · obtain ⟨b, e1, e2, e3⟩ := q2 j (by rw [List.length_set]; exact hj) hj1
        by_cases e : h = j
        · subst e
          rw [List.getElem_set_self] at e1 e3
          have hb := e3 (.inl (by omega))
          exact ⟨b, e1, fun _ _ _ => hb, fun h => by omega⟩
        · rw [List.getElem_set_ne e] at e1 e2 e3
          exact ⟨b, e1, fun a c p => e2 (by omega) (by omega) p, fun h => e3 (by omega)⟩
      · rw [show h + (d + 1) = h + 1 + d from by omega] at s
        obtain ⟨n', s'⟩ := q3 n fs' i s
        rw [hmod]
        exact ⟨n' + 1, .mrk n' fs h fs' i hh hp (hm h hh (Nat.le_refl _) (by omega) hp) s'⟩
    · obtain ⟨fs1, q1, q2, q3⟩ := stop_seg2 N d (h + 1) fs (by omega) hl (fun j hj h1 h2 => hm j hj (by omega) (by omega))
      refine ⟨fs1, q1, fun j hj hj1 => ?_, fun n fs' i s => ?_⟩
      · obtain ⟨b, e1, e2, e3⟩ := q2 j hj hj1
        refine ⟨b, e1, fun a c p => ?_, fun h => e3 (by omega)⟩
        by_cases e : h = j
        · subst e; exact absurd p hp
        · exact e2 (by omega) (by omega) p
      · rw [show h + (d + 1) = h + 1 + d from by omega] at s
        obtain ⟨n', s'⟩ := q3 n fs' i s
        rw [hmod]
        exact ⟨n' + 1, .pin n' fs h fs' i hh (by omega) s'⟩
/-- The hand's way over pinned frames. -/
theorem stop_pins (N : Nat) : ∀ (d h : Nat) (fs : List Fr), h + d ≤ N → fs.length = N → (∀ j (hj : j < fs.length), h ≤ j → j < h + d → 0 < fs[j].pins) → ∀ n fs' i, Stops N n fs ((h + d) % N) fs' i → ∃ n', Stops N n' fs (h % N) fs' i
  | 0, h, fs, _, _, _ => fun n fs' i s => ⟨n, s⟩
  | d + 1, h, fs, hd, hl, hm => fun n fs' i s => by
    have hh : h < fs.length := by omega
    rw [show h + (d + 1) = h + 1 + d from by omega] at s
    obtain ⟨n', s'⟩ := stop_pins N d (h + 1) fs (by omega) hl (fun j hj h1 h2 => hm j hj (by omega) (by omega)) n fs' i s
    rw [Nat.mod_eq_of_lt (show h < N by omega)]
    exact ⟨n' + 1, .pin n' fs h fs' i hh (hm h hh (Nat.le_refl _) (by omega)) s'⟩
end Go.Proofs.Ythmaofbnhfgfaaa
