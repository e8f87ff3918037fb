/- CachePins: what its calls make of the cache. Conditions: lengths. -/
import Derived.Test.YthmaofbnhfgfaaaCmS
namespace Go.Proofs.Ythmaofbnhfgfaaa
set_option linter.unusedVariables false
set_option linter.unusedSimpArgs false
open Go.RowKit Go.Maps
set_option maxHeartbeats 1000000
set_option maxRecDepth 100000
theorem keys_none {W : World} {g fb mb N hand : Nat} {fs : List Fr} {tb : Tk} (h : CaAt W g fb mb N fs hand tb none) (k : K2) (hk : ∀ i (hi : i < fs.length), fs[i].full = true → fs[i].k ≠ k) : vOf tb k = none := by
  cases e : vOf tb k with
  | none => rfl
  | some v =>
    exfalso
    obtain ⟨i, hi, _, _, q3, q4⟩ := h.c2 _ _ e
    exact hk i hi q3 q4
theorem first_un (pq : List Bool) (N : Nat) : ∀ d p, p + d = N → (∃ u, p ≤ u ∧ u < N ∧ pq.getD u false = false) → ∃ u, p ≤ u ∧ u < N ∧ pq.getD u false = false ∧ ∀ j, p ≤ j → j < u → pq.getD j false = true
  | 0, p, hp, ⟨u, h1, h2, _⟩ => by omega
  | d + 1, p, hp, ⟨u, h1, h2, h3⟩ => by
    cases e : pq.getD p false with
    | false => exact ⟨p, Nat.le_refl _, by omega, e, fun j a b => by omega⟩
    | true =>
      obtain ⟨v, v1, v2, v3, v4⟩ := first_un pq N d (p + 1) (by omega) ⟨u, by
        by_cases eu : u = p
        · subst eu; rw [e] at h3; cases h3
        · omega, h2, h3⟩
      exact ⟨v, by omega, v2, v3, fun j a b => by
        by_cases ej : j = p
        · rw [ej]; exact e
        · exact v4 j (by omega) b⟩
/-- How many of the first j are pinned. -/
def cntP (pq : List Bool) : Nat → Nat
  | 0 => 0
  | j + 1 => cntP pq j + if pq.getD j false = true then 1 else 0
theorem cntP_le (pq : List Bool) : ∀ j, cntP pq j ≤ j
  | 0 => Nat.le_refl _
  | j + 1 => by have := cntP_le pq j; unfold cntP; split <;> omega
theorem cntP_all (pq : List Bool) : ∀ j, cntP pq j = j → ∀ i, i < j → pq.getD i false = true
  | 0, _, i, hi => by omega
  | j + 1, h, i, hi => by
    have h1 := cntP_le pq j
    unfold cntP at h
    split at h
    · rename_i hj
      by_cases e : i = j
      · rw [e]; exact hj
      · exact cntP_all pq j (by omega) i (by omega)
    · omega
theorem cntP_un (pq : List Bool) : ∀ j, cntP pq j ≠ j → ∃ u, u < j ∧ pq.getD u false = false
  | 0, h => absurd rfl h
  | j + 1, h => by
    unfold cntP at h
    split at h
    · obtain ⟨u, h1, h2⟩ := cntP_un pq j (by omega)
      exact ⟨u, by omega, h2⟩
    · rename_i hj
      exact ⟨j, by omega, by simpa using hj⟩
def PF (N : Nat) (pq : List Bool) (j m : Nat) (fs : List Fr) : Prop := fs.length = N ∧ ∀ i (hi : i < fs.length), (i < j → fs[i].full = true ∧ fs[i].k = (0, (i : Int)) ∧ fs[i].mrk = true ∧ fs[i].dirty = true) ∧ (j ≤ i → fs[i].full = false) ∧ fs[i].pins = if i < m ∧ pq.getD i false = true then 1 else 0
def Q1 (g fb mb N : Nat) (pq : List Bool) (j m : Nat) (W : World) : Prop := ∃ fs tb, CaAt W g fb mb N fs 0 tb none ∧ PF N pq j m fs ∧ tb.length = j
theorem q1_zero {g fb mb N : Nat} {W : World} (pq : List Bool) (h : CaAt W g fb mb N (List.replicate N frZ) 0 [] none) : Q1 g fb mb N pq 0 0 W :=
  ⟨_, _, h, ⟨List.length_replicate, fun i hi => by rw [List.getElem_replicate]; exact ⟨fun e => by omega, fun _ => rfl, by rw [if_neg (by omega)]; rfl⟩⟩, rfl⟩
theorem q1_put {g fb mb N : Nat} {pq : List Bool} {W : World} (j : Nat) (hj : j < N) (hN : N ≤ 64) (h : Q1 g fb mb N pq j j W) :
    Calls Try.prog 8 #[.pointer (some ⟨g, 0, none⟩), .agg #[.int .i64 0, .int .i64 j], .slice none 0 0, .bool true] W fun e w' => e = .returned (.tuple #[.agg #[.int .i64 0, .int .i64 0, .slice none 0 0, .bool false, .bool false], .int .i64 0]) ∧ Q1 g fb mb N pq (j + 1) j w' ∧ Kept (Cx g fb mb) W w' := by
  obtain ⟨fs, tb, h1, h2, h3⟩ := h
  have hv := keys_none h1 (0, (j : Int)) (fun i hi hf e => by
    obtain ⟨p1, p2, _⟩ := h2.2 i hi
    by_cases hij : i < j
    · rw [(p1 hij).2.1] at e; injection e with _ e; omega
    · rw [p2 (by omega)] at hf; cases hf)
  have hjl : j < fs.length := by rw [h2.1]; exact hj
  have hfe : fs[j].full = false := (h2.2 j hjl).2.1 (Nat.le_refl _)
  refine (put_new h1 (0, (j : Int)) (kw2 0 j (by decide) (by omega)) hv none [] 0 0 rfl (by decide) Rd.nil (fun a e => by cases e) true j 0 0 none 0 0 false false fs 0 tb hjl hv (by omega) (h1.lows)
    (fun V hV => (room_empty (h1.below hV) j hj (fun i hi hij => ((h2.2 i hi).1 hij).1) (fun _ => hfe)).mono (fun e w' he => ⟨he.1, ((h1.below hV).below he.2).hole j hjl hfe, Kept.of_below he.2 _⟩))).mono (fun e w' he => ?_)
  obtain ⟨A2, c2, rfl, q1, q2⟩ := he
  refine ⟨rfl, ⟨_, _, q1, ⟨by rw [List.length_set]; exact h2.1, fun i hi => ?_⟩, ?_⟩, q2⟩
  · by_cases e : j = i
    · subst e
      rw [List.getElem_set_self]
      exact ⟨fun _ => ⟨rfl, rfl, rfl, rfl⟩, fun e => by omega, by rw [if_neg (by omega)]; rfl⟩
    · rw [List.getElem_set_ne e]
      rw [List.length_set] at hi
      obtain ⟨p1, p2, p3⟩ := h2.2 i hi
      exact ⟨fun e2 => p1 (by omega), fun e2 => p2 (by omega), p3⟩
  · rw [set_len, hv]
    simp only [Option.isSome_none, Bool.false_eq_true, if_false]
    rw [h3]
theorem q1_pin {g fb mb N : Nat} {pq : List Bool} {W : World} (j : Nat) (hj : j < N) (hN : N ≤ 64) (h : Q1 g fb mb N pq (j + 1) j W) (hp : pq.getD j false = true) :
    Calls Try.prog 11 #[.pointer (some ⟨g, 0, none⟩), .agg #[.int .i64 0, .int .i64 j]] W fun e w' => e = .returned (.bool true) ∧ Q1 g fb mb N pq (j + 1) (j + 1) w' ∧ Kept (Cx g fb mb) W w' := by
  obtain ⟨fs, tb, h1, h2, h3⟩ := h
  have hjl : j < fs.length := by rw [h2.1]; exact hj
  obtain ⟨p1, _, p3⟩ := h2.2 j hjl
  have p1 := p1 (by omega)
  rw [if_neg (by omega)] at p3
  refine (pin_hit h1 (0, (j : Int)) (kw2 0 j (by decide) (by omega)) j hjl p1.1 p1.2.1 (by omega)).mono (fun e w' he => ?_)
  obtain ⟨rfl, q1, q2⟩ := he
  refine ⟨rfl, ⟨_, _, q1, ⟨by rw [List.length_set]; exact h2.1, fun i hi => ?_⟩, h3⟩, q2⟩
  rw [List.length_set] at hi
  obtain ⟨r1, r2, r3⟩ := h2.2 i hi
  by_cases e : j = i
  · subst e
    rw [List.getElem_set_self]
    refine ⟨r1, r2, ?_⟩
    rw [if_pos ⟨by omega, hp⟩]
    show fs[j].pins + 1 = 1
    omega
  · rw [List.getElem_set_ne e]
    refine ⟨r1, r2, ?_⟩
    rw [r3]
    by_cases e2 : i < j
    · by_cases e3 : pq.getD i false = true
      · rw [if_pos ⟨e2, e3⟩, if_pos ⟨by omega, e3⟩]
      · rw [if_neg (fun a => e3 a.2), if_neg (fun a => e3 a.2)]
    · rw [if_neg (by omega), if_neg (by omega)]
theorem q1_skip {g fb mb N : Nat} {pq : List Bool} {W : World} (j : Nat) (h : Q1 g fb mb N pq (j + 1) j W) (hp : pq.getD j false = false) : Q1 g fb mb N pq (j + 1) (j + 1) W := by
  obtain ⟨fs, tb, h1, h2, h3⟩ := h
  refine ⟨fs, tb, h1, ⟨h2.1, fun i hi => ?_⟩, h3⟩
  obtain ⟨r1, r2, r3⟩ := h2.2 i hi
  refine ⟨r1, r2, ?_⟩
  rw [r3]
  by_cases e3 : pq.getD i false = true
  · have hne : i ≠ j := fun e => by rw [e, hp] at e3; cases e3
    by_cases e2 : i < j
    · rw [if_pos ⟨e2, e3⟩, if_pos ⟨by omega, e3⟩]
    · rw [if_neg (by omega), if_neg (by omega)]
  · rw [if_neg (fun a => e3 a.2), if_neg (fun a => e3 a.2)]
/-- Behind e puts more: those below p that are not pinned have gone. -/
def Q2 (g fb mb N : Nat) (pq : List Bool) (e : Nat) (W : World) : Prop := ∃ fs tb hand p, CaAt W g fb mb N fs hand tb none ∧ tb.length = N ∧ fs.length = N ∧ p ≤ N ∧ (e ≤ p ∨ p = N) ∧
  (∀ i (hi : i < fs.length), fs[i].full = true ∧ (pq.getD i false = true → fs[i].k = (0, (i : Int)) ∧ fs[i].pins = 1 ∧ fs[i].dirty = true) ∧ (pq.getD i false = false → fs[i].pins = 0 ∧ (p ≤ i → fs[i].k = (0, (i : Int))) ∧ (i < p → ∃ z : Nat, fs[i].k = (0, (z : Int)) ∧ 1000 ≤ z ∧ z < 1000 + e))) ∧
  (e = 0 → p = 0 ∧ hand = 0 ∧ ∀ i (hi : i < fs.length), fs[i].mrk = true) ∧ (0 < e → p < N → hand = p ∧ ∀ i (hi : i < fs.length), p ≤ i → pq.getD i false = false → fs[i].mrk = false)
theorem q2_of {g fb mb N : Nat} {pq : List Bool} {W : World} (h : Q1 g fb mb N pq N N W) : Q2 g fb mb N pq 0 W := by
  obtain ⟨fs, tb, h1, h2, h3⟩ := h
  refine ⟨fs, tb, 0, 0, h1, h3, h2.1, by omega, .inl (Nat.le_refl _), fun i hi => ?_, fun _ => ⟨rfl, rfl, fun i hi => ((h2.2 i hi).1 (by rw [← h2.1]; exact hi)).2.2.1⟩, fun e => by omega⟩
  have hiN : i < N := by rw [← h2.1]; exact hi
  obtain ⟨r1, r2, r3⟩ := h2.2 i hi
  obtain ⟨a1, a2, a3, a4⟩ := r1 hiN
  refine ⟨a1, fun e => ⟨a2, by rw [r3, if_pos ⟨hiN, e⟩], a4⟩, fun e => ⟨by rw [r3, if_neg (fun a => by rw [e] at a; exact absurd a.2 (by decide))], fun _ => a2, fun e => by omega⟩⟩
theorem q2_way {N : Nat} {pq : List Bool} {e hand p : Nat} {fs : List Fr} {W : World} {g fb mb : Nat} {tb : Tk} (h1 : CaAt W g fb mb N fs hand tb none) (hl : fs.length = N) (hp : p ≤ N) (hep : e ≤ p ∨ p = N)
    (hf : ∀ i (hi : i < fs.length), (pq.getD i false = true → fs[i].pins = 1) ∧ (pq.getD i false = false → fs[i].pins = 0)) (hz : e = 0 → p = 0 ∧ hand = 0 ∧ ∀ i (hi : i < fs.length), fs[i].mrk = true)
    (hm : 0 < e → p < N → hand = p ∧ ∀ i (hi : i < fs.length), p ≤ i → pq.getD i false = false → fs[i].mrk = false) (hu : ∃ K, K < N ∧ pq.getD K false = false) :
    ∃ n fs' i p', ∃ hi : i < fs'.length, Stops N n fs hand fs' i ∧ pq.getD i false = false ∧ p' ≤ N ∧ (e + 1 ≤ p' ∨ p' = N) ∧ i < p' ∧ p ≤ p' ∧ (∀ j, p ≤ j → j < p' → j ≠ i → pq.getD j false = true) ∧ (p' < N → (i + 1) % N = p' ∧ ∀ j (hj : j < fs'.length), p' ≤ j → pq.getD j false = false → fs'[j].mrk = false) := by
  by_cases hx : ∃ u, p ≤ u ∧ u < N ∧ pq.getD u false = false
  · obtain ⟨u, u1, u2, u3, u4⟩ := first_un pq N (N - p) p (by omega) hx
    have hul : u < fs.length := by omega
    by_cases e0 : e = 0
    · obtain ⟨rfl, rfl, z3⟩ := hz e0
      obtain ⟨fs1, l1, e1, s1⟩ := stop_seg2 N N 0 fs (by omega) hl (fun j hj _ _ _ => z3 j hj)
      have hpin : ∀ j (hj : j < fs.length) (hj1 : j < fs1.length), fs1[j].pins = fs[j].pins ∧ (fs[j].pins = 0 → fs1[j].mrk = false) := fun j hj hj1 => by
        obtain ⟨b, q1, q2, _⟩ := e1 j hj hj1
        rw [q1]
        exact ⟨rfl, fun a => q2 (by omega) (by omega) a⟩
      have hu1 : u < fs1.length := by omega
      have hup := (hf u hul).2 u3
      obtain ⟨n2, s2⟩ := stop_pins N u 0 fs1 (by omega) l1 (fun j hj _ b => by rw [(hpin j (by omega) hj).1, (hf j (by omega)).1 (u4 j (by omega) (by omega))]; omega) 0 fs1 u (by rw [Nat.zero_add, Nat.mod_eq_of_lt u2]; exact .here fs1 u hu1 (by rw [(hpin u hul hu1).1]; exact hup) ((hpin u hul hu1).2 hup))
      obtain ⟨n3, s3⟩ := s1 n2 fs1 u (by rw [Nat.zero_add, Nat.mod_self]; rw [Nat.zero_mod] at s2; exact s2)
      rw [Nat.zero_mod] at s3
      exact ⟨n3, fs1, u, u + 1, hu1, s3, u3, by omega, .inl (by omega), by omega, by omega, fun j a b c => u4 j a (by omega), fun a => ⟨Nat.mod_eq_of_lt a, fun j hj b c => (hpin j (by omega) hj).2 ((hf j (by omega)).2 c)⟩⟩
    · obtain ⟨rfl, m2⟩ := hm (by omega) (by omega)
      obtain ⟨n2, s2⟩ := stop_pins N (u - hand) hand fs (by omega) hl (fun j hj a b => by rw [(hf j hj).1 (u4 j a (by omega))]; omega) 0 fs u (by rw [show hand + (u - hand) = u from by omega, Nat.mod_eq_of_lt u2]; exact .here fs u hul ((hf u hul).2 u3) (m2 u hul u1 u3))
      rw [Nat.mod_eq_of_lt (show hand < N by omega)] at s2
      exact ⟨n2, fs, u, u + 1, hul, s2, u3, by omega, .inl (by omega), by omega, by omega, fun j a b c => u4 j a (by omega), fun a => ⟨Nat.mod_eq_of_lt a, fun j hj b c => m2 j hj (by omega) c⟩⟩
  · obtain ⟨K, hK, hKu⟩ := hu
    have hh := h1.hl
    obtain ⟨n, fs', i, s⟩ := stop_B N K (K + N - hand) hand fs hl hh (by rw [show hand + (K + N - hand) = K + N from by omega, Nat.add_mod_right, Nat.mod_eq_of_lt hK]) (fun hk => (hf K hk).2 hKu)
    obtain ⟨hi, p0, _⟩ := s.at_
    have hi2 : i < fs.length := by rw [← s.len]; exact hi
    obtain ⟨b, hb⟩ := s.same i hi2 hi
    have hiu : pq.getD i false = false := by
      cases e2 : pq.getD i false with
      | false => rfl
      | true =>
        have := (hf i hi2).1 e2
        rw [hb] at p0
        have p0 : fs[i].pins = 0 := p0
        omega
    exact ⟨n, fs', i, N, hi, s, hiu, Nat.le_refl _, .inr rfl, by omega, hp, fun j a b c => by
      cases e2 : pq.getD j false with
      | true => rfl
      | false => exact absurd ⟨j, a, b, e2⟩ hx, fun a => by omega⟩
theorem q2_put {g fb mb N : Nat} {pq : List Bool} {e : Nat} {W : World} (hN : N ≤ 64) (hu : ∃ K, K < N ∧ pq.getD K false = false) (he : e ≤ 1000) (h : Q2 g fb mb N pq e W) (k1 : Int) (hk1 : k1 = 1000 + (e : Int)) :
    Calls Try.prog 8 #[.pointer (some ⟨g, 0, none⟩), .agg #[.int .i64 0, .int .i64 k1], .slice none 0 0, .bool false] W fun r w' => ∃ (z : Nat) (A : Option Addr) (n c : Nat) (d : Bool), r = .returned (.tuple #[.agg #[.int .i64 0, .int .i64 z, .slice A n c, .bool d, .bool true], .int .i64 0]) ∧ (z ≤ 10000 ∧ (z < N → pq.getD z false = false)) ∧ Q2 g fb mb N pq (e + 1) w' ∧ Kept (Cx g fb mb) W w' := by
  obtain ⟨fs, tb, hand, p, h1, h2, h3, h4, h5, h6, h7, h8⟩ := h
  have hv : vOf tb (0, k1) = none := keys_none h1 _ (fun i hi hf eq => by
    obtain ⟨_, a2, a3⟩ := h6 i hi
    cases e2 : pq.getD i false with
    | true => rw [(a2 e2).1] at eq; injection eq with _ eq; omega
    | false =>
      by_cases e3 : p ≤ i
      · rw [(a3 e2).2.1 e3] at eq; injection eq with _ eq; omega
      · obtain ⟨z, q1, q2, q3⟩ := (a3 e2).2.2 (by omega)
        rw [q1] at eq; injection eq with _ eq; omega)
  obtain ⟨n, fs', i, p', hi, s, r1, r2, r3, r4, r5, r6, r7⟩ := q2_way (e := e) h1 h3 h4 h5 (fun i hi => ⟨fun a => ((h6 i hi).2.1 a).2.1, fun a => ((h6 i hi).2.2 a).1⟩) h7 h8 hu
  have hlen : fs'.length = N := by rw [s.len]; exact h3
  have hi2 : i < fs.length := by omega
  obtain ⟨K, _, K2_, K3, K4⟩ := first_un pq N N 0 (by omega) (by obtain ⟨K, a, b⟩ := hu; exact ⟨K, by omega, a, b⟩)
  have hk2 : fs'[i].k = fs[i].k := by obtain ⟨b, hb⟩ := s.same i hi2 hi; rw [hb]
  have hat : vOf tb fs[i].k = some (i : Int) := h1.c1 i hi2 (by simp) (h6 i hi2).1
  obtain ⟨z, hz1, hz2⟩ : ∃ z : Nat, fs[i].k = (0, (z : Int)) ∧ (z ≤ 10000 ∧ (z < N → pq.getD z false = false)) := by
    by_cases e3 : p ≤ i
    · exact ⟨i, ((h6 i hi2).2.2 r1).2.1 e3, by omega, fun _ => r1⟩
    · obtain ⟨z, q1, q2, q3⟩ := ((h6 i hi2).2.2 r1).2.2 (by omega)
      exact ⟨z, q1, by omega, fun a => by omega⟩
  refine (put_evict h1 (0, k1) (kw2 0 k1 (by decide) (by omega)) hv none [] 0 0 rfl (by decide) Rd.nil (fun a e => by cases e) false (fun f hf => by
    obtain ⟨j, hj, rfl⟩ := List.getElem_of_mem hf
    exact (h6 j hj).1) K K2_ (fun j hj hj2 => by rw [((h6 j hj).2.1 (K4 j (by omega) hj2)).2.1]; decide) (fun hj => ((h6 K hj).2.2 K3).1) n fs' i s hi (by omega)).mono (fun r w' hr => ?_)
  obtain ⟨A2, c2, rfl, q1, q2⟩ := hr
  refine ⟨z, fs'[i].A, fs'[i].b.length, fs'[i].c, fs'[i].dirty, by unfold outF; rw [hk2, hz1], hz2, ⟨_, _, _, p', q1, ?_, by rw [List.length_set]; exact hlen, r2, r3, fun j hj => ?_, fun a => by omega, fun _ a => ⟨(r7 a).1, fun j hj b c => ?_⟩⟩, q2⟩
  · have hne : ¬ ((0 : Int), k1) = fs'[i].k := fun a => by rw [hk2] at a; rw [← a, hv] at hat; cases hat
    rw [set_len, vOf_del, if_neg hne, hv]
    have := del_len fs'[i].k tb h1.nodup
    rw [hk2, hat] at this
    rw [hk2]
    simp only [Option.isSome_none, Bool.false_eq_true, if_false]
    simp only [Option.isSome_some, if_true] at this
    omega
  · rw [List.length_set] at hj
    have hj2 : j < fs.length := by omega
    by_cases ej : i = j
    · subst ej
      rw [List.getElem_set_self]
      exact ⟨rfl, (fun a => by rw [r1] at a; cases a), fun _ => ⟨rfl, fun a => by omega, fun _ => ⟨1000 + e, by show ((0 : Int), k1) = _; rw [hk1]; simp, by omega, by omega⟩⟩⟩
    · rw [List.getElem_set_ne ej]
      obtain ⟨b, hb⟩ := s.same j hj2 hj
      rw [hb]
      obtain ⟨a1, a2, a3⟩ := h6 j hj2
      refine ⟨a1, a2, fun a => ⟨(a3 a).1, fun c => (a3 a).2.1 (by omega), fun c => ?_⟩⟩
      by_cases ep : j < p
      · obtain ⟨z, x1, x2, x3⟩ := (a3 a).2.2 ep
        exact ⟨z, x1, x2, by omega⟩
      · have := r6 j (by omega) c (fun e => ej e.symm)
        rw [a] at this; cases this
  · rw [List.length_set] at hj
    rw [List.getElem_set_ne (by omega)]
    exact (r7 a).2 j hj b c
end Go.Proofs.Ythmaofbnhfgfaaa
