/- CachePins: its end. Conditions: lengths. -/
import Derived.Test.YthmaofbnhfgfaaaCmT
namespace Go.Proofs.Ythmaofbnhfgfaaa
set_option linter.unusedVariables false
set_option linter.unusedSimpArgs false
open Go.RowKit Go.Maps
set_option maxHeartbeats 1000000
set_option maxRecDepth 100000
def Q3 (g fb mb N : Nat) (pq : List Bool) (W : World) : Prop := ∃ fs tb hand, CaAt W g fb mb N fs hand tb none ∧ tb.length = N ∧ fs.length = N ∧
  ∀ i (hi : i < fs.length), fs[i].full = true ∧ (pq.getD i false = true → fs[i].k = (0, (i : Int)) ∧ fs[i].pins = 1 ∧ fs[i].dirty = true) ∧ (pq.getD i false = false → fs[i].pins = 0 ∧ ∃ z : Nat, fs[i].k = (0, (z : Int)) ∧ 1000 ≤ z)
theorem Q3.below {g fb mb N : Nat} {pq : List Bool} {W W' : World} (h : Q3 g fb mb N pq W) (hb : Below W.heap.size W W') : Q3 g fb mb N pq W' := by
  obtain ⟨fs, tb, hand, h1, h2⟩ := h
  exact ⟨fs, tb, hand, h1.below hb, h2⟩
theorem Q1.below {g fb mb N j m : Nat} {pq : List Bool} {W W' : World} (h : Q1 g fb mb N pq j m W) (hb : Below W.heap.size W W') : Q1 g fb mb N pq j m W' := by
  obtain ⟨fs, tb, h1, h2⟩ := h
  exact ⟨fs, tb, h1.below hb, h2⟩
theorem Q2.below {g fb mb N e : Nat} {pq : List Bool} {W W' : World} (h : Q2 g fb mb N pq e W) (hb : Below W.heap.size W W') : Q2 g fb mb N pq e W' := by
  obtain ⟨fs, tb, hand, p, h1, h2⟩ := h
  exact ⟨fs, tb, hand, p, h1.below hb, h2⟩
theorem q3_of2 {g fb mb N e : Nat} {pq : List Bool} {W : World} (he : N ≤ e) (h : Q2 g fb mb N pq e W) : Q3 g fb mb N pq W := by
  obtain ⟨fs, tb, hand, p, h1, h2, h3, h4, h5, h6, _⟩ := h
  have hp : p = N := by omega
  refine ⟨fs, tb, hand, h1, h2, h3, fun i hi => ⟨(h6 i hi).1, (h6 i hi).2.1, fun a => ⟨((h6 i hi).2.2 a).1, ?_⟩⟩⟩
  obtain ⟨z, q1, q2, _⟩ := ((h6 i hi).2.2 a).2.2 (by omega)
  exact ⟨z, q1, q2⟩
theorem q3_of1 {g fb mb N : Nat} {pq : List Bool} {W : World} (ha : ∀ i, i < N → pq.getD i false = true) (h : Q1 g fb mb N pq N N W) : Q3 g fb mb N pq W := by
  obtain ⟨fs, tb, h1, h2, h3⟩ := h
  refine ⟨fs, tb, 0, h1, h3, h2.1, fun i hi => ?_⟩
  have hiN : i < N := by rw [← h2.1]; exact hi
  obtain ⟨r1, _, r3⟩ := h2.2 i hi
  obtain ⟨a1, a2, a3, a4⟩ := r1 hiN
  exact ⟨a1, fun e => ⟨a2, by rw [r3, if_pos ⟨hiN, e⟩], a4⟩, fun e => by rw [ha i hiN] at e; cases e⟩
theorem q3_full {g fb mb N : Nat} {pq : List Bool} {W : World} (hN : N ≤ 64) (ha : ∀ i, i < N → pq.getD i false = true) (h : Q3 g fb mb N pq W) (k1 : Int) (hk1 : 1000 ≤ k1 ∧ k1 ≤ 10000) :
    Calls Try.prog 8 #[.pointer (some ⟨g, 0, none⟩), .agg #[.int .i64 0, .int .i64 k1], .slice none 0 0, .bool false] W fun e w' => e = .returned (.tuple #[.agg #[.int .i64 0, .int .i64 0, .slice none 0 0, .bool false, .bool false], .int .i64 6]) ∧ Below W.heap.size W w' := by
  obtain ⟨fs, tb, hand, h1, h2, h3, h4⟩ := h
  have hp : ∀ i (hi : i < fs.length), fs[i].k = (0, (i : Int)) ∧ fs[i].pins = 1 := fun i hi => ⟨((h4 i hi).2.1 (ha i (by omega))).1, ((h4 i hi).2.1 (ha i (by omega))).2.1⟩
  refine put_full h1 (0, k1) (kw2 0 k1 (by decide) (by omega)) (keys_none h1 _ (fun i hi hf eq => by rw [(hp i hi).1] at eq; injection eq with _ eq; omega)) none 0 0 false (fun f hf => ?_) (fun f hf => ?_)
  · obtain ⟨j, hj, rfl⟩ := List.getElem_of_mem hf
    exact (h4 j hj).1
  · obtain ⟨j, hj, rfl⟩ := List.getElem_of_mem hf
    rw [(hp j hj).2]; decide
theorem q3_get {g fb mb N : Nat} {pq : List Bool} {W : World} (m : Nat) (hm : m < N) (hN : N ≤ 64) (h : Q3 g fb mb N pq W) (b : Bool) (hb : pq.getD m false = b) :
    Calls Try.prog 9 #[.pointer (some ⟨g, 0, none⟩), .agg #[.int .i64 0, .int .i64 m]] W fun e w' => ∃ A n c, e = .returned (.tuple #[.slice A n c, .bool b]) ∧ Q3 g fb mb N pq w' ∧ Kept (Cx g fb mb) W w' := by
  obtain ⟨fs, tb, hand, h1, h2, h3, h4⟩ := h
  have hml : m < fs.length := by omega
  cases b with
  | true =>
    obtain ⟨p1, p2, _⟩ := h4 m hml
    refine (get_hit h1 (0, (m : Int)) (kw2 0 m (by decide) (by omega)) m hml p1 (p2 hb).1).mono (fun e w' he => ?_)
    obtain ⟨A, c, rfl, _, q1, q2⟩ := he
    refine ⟨A, _, c, rfl, ⟨_, _, _, q1, h2, by rw [List.length_set]; exact h3, fun i hi => ?_⟩, q2⟩
    rw [List.length_set] at hi
    by_cases e : m = i
    · subst e
      rw [List.getElem_set_self]
      exact h4 m hi
    · rw [List.getElem_set_ne e]
      exact h4 i hi
  | false =>
    refine (get_miss h1 (0, (m : Int)) (kw2 0 m (by decide) (by omega)) (keys_none h1 _ (fun i hi hf eq => by
      obtain ⟨_, a2, a3⟩ := h4 i hi
      cases e2 : pq.getD i false with
      | true =>
        rw [(a2 e2).1] at eq; injection eq with _ eq
        have : i = m := by omega
        rw [this, hb] at e2; cases e2
      | false =>
        obtain ⟨_, z, q1, q2⟩ := a3 e2
        rw [q1] at eq; injection eq with _ eq; omega))).mono (fun e w' he => ?_)
    obtain ⟨rfl, q1⟩ := he
    exact ⟨none, 0, 0, rfl, ⟨fs, tb, hand, h1.below q1, h2, h3, h4⟩, Kept.of_below q1 _⟩
theorem q3_len {g fb mb N : Nat} {pq : List Bool} {W : World} (h : Q3 g fb mb N pq W) : Calls Try.prog 10 #[.pointer (some ⟨g, 0, none⟩)] W fun e w' => e = .returned (.int .i64 N) ∧ w' = W := by
  obtain ⟨fs, tb, hand, h1, h2, _⟩ := h
  have := len_c h1
  rw [h2] at this
  exact this
/-- All are pinned but the first. -/
def Q4 (g fb mb N : Nat) (W : World) : Prop := ∃ fs tb hand, CaAt W g fb mb N fs hand tb none ∧ tb.length = N ∧ fs.length = N ∧ ∀ i (hi : i < fs.length), fs[i].full = true ∧ fs[i].k = (0, (i : Int)) ∧ fs[i].dirty = true ∧ (i = 0 → fs[i].pins = 0) ∧ (0 < i → fs[i].pins = 1)
theorem q3_unpin {g fb mb N : Nat} {pq : List Bool} {W : World} (h1N : 1 ≤ N) (ha : ∀ i, i < N → pq.getD i false = true) (h : Q3 g fb mb N pq W) :
    Calls Try.prog 12 #[.pointer (some ⟨g, 0, none⟩), .agg #[.int .i64 0, .int .i64 0]] W fun e w' => e = .returned (.bool true) ∧ Q4 g fb mb N w' ∧ Kept (Cx g fb mb) W w' := by
  obtain ⟨fs, tb, hand, h1, h2, h3, h4⟩ := h
  have h0 : 0 < fs.length := by omega
  obtain ⟨a1, a2, _⟩ := h4 0 h0
  obtain ⟨b1, b2, b3⟩ := a2 (ha 0 (by omega))
  refine (unpin_hit h1 (0, 0) (kw2 0 0 (by decide) (by decide)) 0 h0 a1 b1 b2).mono (fun e w' he => ?_)
  obtain ⟨rfl, q1, q2⟩ := he
  refine ⟨rfl, ⟨_, _, _, q1, h2, by rw [List.length_set]; exact h3, fun i hi => ?_⟩, q2⟩
  rw [List.length_set] at hi
  obtain ⟨c1, c2, _⟩ := h4 i hi
  obtain ⟨d1, d2, d3⟩ := c2 (ha i (by omega))
  by_cases e : 0 = i
  · subst e
    rw [List.getElem_set_self]
    exact ⟨c1, d1, d3, fun _ => rfl, fun e => by omega⟩
  · rw [List.getElem_set_ne e]
    exact ⟨c1, d1, d3, fun e => by omega, fun _ => d2⟩
theorem q4_put {g fb mb N : Nat} {W : World} (h1N : 1 ≤ N) (hN : N ≤ 64) (h : Q4 g fb mb N W) :
    Calls Try.prog 8 #[.pointer (some ⟨g, 0, none⟩), .agg #[.int .i64 0, .int .i64 5000], .slice none 0 0, .bool false] W fun e w' => ∃ (A : Option Addr) (n c : Nat), e = .returned (.tuple #[.agg #[.int .i64 0, .int .i64 0, .slice A n c, .bool true, .bool true], .int .i64 0]) ∧ Kept (Cx g fb mb) W w' := by
  obtain ⟨fs, tb, hand, h1, h2, h3, h4⟩ := h
  have h0 : 0 < fs.length := by omega
  have hh := h1.hl
  obtain ⟨n, fs', i, s⟩ := stop_B N 0 (N - hand) hand fs h3 hh (by rw [show hand + (N - hand) = N from by omega, Nat.mod_self]) (fun hk => (h4 0 hk).2.2.2.1 rfl)
  obtain ⟨hi, p0, _⟩ := s.at_
  have hi2 : i < fs.length := by rw [← s.len]; exact hi
  obtain ⟨b, hb⟩ := s.same i hi2 hi
  have hi0 : i = 0 := by
    apply Classical.byContradiction
    intro hne
    have := (h4 i hi2).2.2.2.2 (by omega)
    rw [hb] at p0
    have p0 : fs[i].pins = 0 := p0
    omega
  subst hi0
  refine (put_evict h1 (0, 5000) (kw2 0 5000 (by decide) (by decide)) (keys_none h1 _ (fun i hi hf eq => by rw [(h4 i hi).2.1] at eq; injection eq with _ eq; omega)) none [] 0 0 rfl (by decide) Rd.nil (fun a e => by cases e) false (fun f hf => by
    obtain ⟨j, hj, rfl⟩ := List.getElem_of_mem hf
    exact (h4 j hj).1) 0 h1N (fun j hj hj2 => by omega) (fun hj => (h4 0 hj).2.2.2.1 rfl) n fs' 0 s hi (by omega)).mono (fun e w' he => ?_)
  obtain ⟨A2, c2, rfl, q1, q2⟩ := he
  have hk : fs'[0].k = (0, 0) := by rw [hb]; exact (h4 0 h0).2.1
  have hd : fs'[0].dirty = true := by rw [hb]; exact (h4 0 h0).2.2.1
  exact ⟨fs'[0].A, fs'[0].b.length, fs'[0].c, by unfold outF; rw [hk, hd], q2⟩
end Go.Proofs.Ythmaofbnhfgfaaa
