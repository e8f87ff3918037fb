/- CacheKeeps: what its puts and gets make of the cache. Conditions: lengths. -/
import Derived.Test.YthmaofbnhfgfaaaCmQ
namespace Go.Proofs.Ythmaofbnhfgfaaa
set_option linter.unusedVariables false
set_option linter.unusedSimpArgs false
open Go.RowKit Go.Maps
set_option maxHeartbeats 1000000
set_option maxRecDepth 100000
theorem CaAt.out5 {W W' : World} {g fb mb N hand b : Nat} {fs : List Fr} {tb : Tk} {ho : Option Nat} {x y : Int} {A : Option Addr} {n c : Nat} {d e : Bool} (h : CaAt W g fb mb N fs hand tb ho) (hb : Bk W b 32 #[.int .i64 x, .int .i64 y, .slice A n c, .bool d, .bool e]) (hk : Kept (fun k => k = b) W W') (hn : ¬ Cx g fb mb b) : CaAt W' g fb mb N fs hand tb ho := by
  refine h.keptS hk (fun e => hn (.inl e.symm)) (fun e => hn (.inr (.inl e.symm))) (fun e => hn (.inr (.inr e.symm))) (fun f hf a e hne e2 => ?_)
  obtain ⟨ad, e3, _, hc⟩ := (h.data f hf).1 0 (List.length_pos_iff.2 hne)
  rw [e] at e3
  injection e3 with e3
  subst e3
  obtain ⟨bl, of, sp⟩ := a
  have e2 : bl = b := e2
  subst e2
  have hz : (⟨bl, of, sp⟩ : Addr).add (0 : Nat) = ⟨bl, of, sp⟩ := rfl
  rw [hz] at hc
  unfold World.cell? at hc
  unfold Bk at hb
  simp only [hb] at hc
  rcases of with _ | _ | _ | _ | _ | of <;> simp [b8] at hc
/-- j frames are full, each with a mark. -/
def FK (N j : Nat) (fs : List Fr) : Prop := fs.length = N ∧ ∀ i (hi : i < fs.length), fs[i].pins = 0 ∧ (i < j → fs[i].full = true ∧ fs[i].k = (0, (i : Int)) ∧ fs[i].mrk = true) ∧ (j ≤ i → fs[i].full = false)
def K1 (g fb mb N j : Nat) (W : World) : Prop := ∃ fs tb, CaAt W g fb mb N fs 0 tb none ∧ FK N j fs ∧ tb.length = j
theorem K1.below {g fb mb N j : Nat} {W W' : World} (h : K1 g fb mb N j W) (hb : Below W.heap.size W W') : K1 g fb mb N j W' := by
  obtain ⟨fs, tb, h1, h2⟩ := h
  exact ⟨fs, tb, h1.below hb, h2⟩
theorem k1_zero {g fb mb N : Nat} {W : World} (h : CaAt W g fb mb N (List.replicate N frZ) 0 [] none) : K1 g fb mb N 0 W :=
  ⟨_, _, h, ⟨List.length_replicate, fun i hi => by rw [List.getElem_replicate]; exact ⟨rfl, fun e => by omega, fun _ => rfl⟩⟩, rfl⟩
theorem fk_none {W : World} {g fb mb N j hand : Nat} {fs : List Fr} {tb : Tk} (h : CaAt W g fb mb N fs hand tb none) (hf : FK N j fs) (z : Int) (hz : ∀ i : Nat, i < j → (i : Int) ≠ z) : vOf tb (0, z) = none := by
  cases e : vOf tb (0, z) with
  | none => rfl
  | some v =>
    exfalso
    obtain ⟨i, hi, _, _, q3, q4⟩ := h.c2 _ _ e
    obtain ⟨_, p2, p3⟩ := hf.2 i hi
    by_cases hij : i < j
    · rw [(p2 hij).2.1] at q4
      injection q4 with _ q4
      exact hz i hij q4
    · rw [p3 (by omega)] at q3; cases q3
theorem put1 {g fb mb N : Nat} {W : World} (j : Nat) (hj : j < N) (hN : N ≤ 64) (h : K1 g fb mb N j W) (A : Option Addr) (x : BitVec 8) (c : Nat) (hr : Rd b8 W W.heap.size A [x]) (hA : ∀ a, A = some a → ¬ Cx g fb mb a.block) :
    Calls Try.prog 8 #[.pointer (some ⟨g, 0, none⟩), .agg #[.int .i64 0, .int .i64 j], .slice A 1 c, .bool false] W fun e w' => e = .returned (.tuple #[.agg #[.int .i64 0, .int .i64 0, .slice none 0 0, .bool false, .bool false], .int .i64 0]) ∧ K1 g fb mb N (j + 1) w' ∧ Kept (Cx g fb mb) W w' := by
  obtain ⟨fs, tb, h1, h2, h3⟩ := h
  have hv := fk_none h1 h2 (j : Int) (fun i hi e => by omega)
  have hjl : j < fs.length := by rw [h2.1]; exact hj
  have hfe : fs[j].full = false := (h2.2 j hjl).2.2 (Nat.le_refl _)
  refine (put_new h1 (0, (j : Int)) (kw2 0 j (by decide) (by omega)) hv A [x] 1 c rfl (by decide) hr (fun a e _ => hA a e) false j 0 0 none 0 0 false false fs 0 tb hjl hv (by omega) (h1.lows)
    (fun V hV => (room_empty (h1.below hV) j hj (fun i hi hij => ((h2.2 i hi).2.1 hij).1) (fun _ => hfe)).mono (fun e w' he => ⟨he.1, ((h1.below hV).below he.2).hole j hjl hfe, Kept.of_below he.2 _⟩))).mono (fun e w' he => ?_)
  obtain ⟨A2, c2, rfl, q1, q2⟩ := he
  refine ⟨rfl, ⟨_, _, q1, ⟨by rw [List.length_set]; exact h2.1, fun i hi => ?_⟩, ?_⟩, q2⟩
  · by_cases e : j = i
    · subst e
      rw [List.getElem_set_self]
      exact ⟨rfl, fun _ => ⟨rfl, rfl, rfl⟩, fun e => by omega⟩
    · rw [List.getElem_set_ne e]
      rw [List.length_set] at hi
      obtain ⟨p1, p2, p3⟩ := h2.2 i hi
      exact ⟨p1, fun e2 => p2 (by omega), fun e2 => p3 (by omega)⟩
  · rw [set_len, hv]
    simp only [Option.isSome_none, Bool.false_eq_true, if_false]
    rw [h3]
/-- Behind the first that went: those below m that were asked for have a mark. -/
def K2s (g fb mb N : Nat) (aq : List Bool) (m : Nat) (W : World) : Prop := ∃ fs tb, CaAt W g fb mb N fs (1 % N) tb none ∧ tb.length = N ∧ fs.length = N ∧ ∀ i (hi : i < fs.length), fs[i].full = true ∧ fs[i].pins = 0 ∧ (i = 0 → fs[i].mrk = true ∧ fs[i].k = (0, 100)) ∧ (1 ≤ i → fs[i].k = (0, (i : Int)) ∧ fs[i].mrk = (decide (i < m) && aq.getD i false))
theorem K2s.below {g fb mb N m : Nat} {aq : List Bool} {W W' : World} (h : K2s g fb mb N aq m W) (hb : Below W.heap.size W W') : K2s g fb mb N aq m W' := by
  obtain ⟨fs, tb, h1, h2⟩ := h
  exact ⟨fs, tb, h1.below hb, h2⟩
theorem put2 {g fb mb N : Nat} {W : World} (aq : List Bool) (h1N : 1 ≤ N) (hN : N ≤ 64) (h : K1 g fb mb N N W) :
    Calls Try.prog 8 #[.pointer (some ⟨g, 0, none⟩), .agg #[.int .i64 0, .int .i64 100], .slice none 0 0, .bool false] W fun e w' => ∃ A n c d, e = .returned (.tuple #[.agg #[.int .i64 0, .int .i64 0, .slice A n c, .bool d, .bool true], .int .i64 0]) ∧ K2s g fb mb N aq 1 w' ∧ Kept (Cx g fb mb) W w' := by
  obtain ⟨fs, tb, h1, h2, h3⟩ := h
  have hv := fk_none h1 h2 100 (fun i hi e => by omega)
  obtain ⟨fs1, l1, e1, s1⟩ := stop_seg N N 0 fs (by omega) h2.1 (fun j hj _ _ => ⟨(h2.2 j hj).1, ((h2.2 j hj).2.1 (by rw [← h2.1]; exact hj)).2.2⟩)
  have hfs : ∀ j (hj : j < fs.length) (hj1 : j < fs1.length), fs1[j] = { fs[j] with mrk := false } := fun j hj hj1 => by rw [e1 j hj hj1, if_pos (by have := h2.1; omega)]
  have h0 : 0 < fs.length := by rw [h2.1]; exact h1N
  have h01 : 0 < fs1.length := by rw [l1]; exact h1N
  obtain ⟨n', s2⟩ := s1 0 fs1 0 (by rw [Nat.zero_add, Nat.mod_self]; exact .here fs1 0 h01 (by rw [hfs 0 h0 h01]; exact (h2.2 0 h0).1) (by rw [hfs 0 h0 h01]))
  rw [Nat.zero_mod] at s2
  have hk0 : fs1[0].k = (0, 0) := by rw [hfs 0 h0 h01]; exact ((h2.2 0 h0).2.1 h1N).2.1
  have hsome : (vOf tb (0, 0)).isSome = true := by
    have := h1.c1 0 h0 (by simp) ((h2.2 0 h0).2.1 h1N).1
    rw [((h2.2 0 h0).2.1 h1N).2.1] at this
    have e : vOf tb (0, 0) = some ((0 : Nat) : Int) := this
    rw [e]; rfl
  refine (put_evict h1 (0, 100) (kw2 0 100 (by decide) (by decide)) hv none [] 0 0 rfl (by decide) Rd.nil (fun a e => by cases e) false (fun f hf => by
    obtain ⟨j, hj, rfl⟩ := List.getElem_of_mem hf
    exact ((h2.2 j hj).2.1 (by rw [← h2.1]; exact hj)).1) 0 h1N (fun j hj hj2 => by omega) (fun hj => (h2.2 0 hj).1) n' fs1 0 s2 h01 (by omega)).mono (fun e w' he => ?_)
  obtain ⟨A2, c2, rfl, q1, q2⟩ := he
  refine ⟨fs1[0].A, fs1[0].b.length, fs1[0].c, fs1[0].dirty, by unfold outF; rw [hk0], ⟨_, _, q1, ?_, by rw [List.length_set]; exact l1, fun i hi => ?_⟩, q2⟩
  · rw [set_len, vOf_del, hk0, if_neg (show ¬ (((0 : Int), (100 : Int)) = (0, 0)) by decide), hv]
    have := del_len (0, 0) tb h1.nodup
    rw [hsome] at this
    simp only [Option.isSome_none, Bool.false_eq_true, if_false]
    simp only [if_true] at this
    omega
  · rw [List.length_set] at hi
    have hi2 : i < fs.length := by rw [h2.1, ← l1]; exact hi
    have hiN : i < N := by rw [← l1]; exact hi
    by_cases e : 0 = i
    · subst e
      rw [List.getElem_set_self]
      exact ⟨rfl, rfl, fun _ => ⟨rfl, rfl⟩, fun e => by omega⟩
    · rw [List.getElem_set_ne e, hfs i hi2 hi]
      obtain ⟨p1, p2, _⟩ := h2.2 i hi2
      refine ⟨(p2 hiN).1, p1, fun e2 => by omega, fun e2 => ⟨(p2 hiN).2.1, ?_⟩⟩
      rw [decide_eq_false (by omega)]; rfl
theorem get2 {g fb mb N m : Nat} {aq : List Bool} {W : World} (h1m : 1 ≤ m) (hm : m < N) (hN : N ≤ 64) (h : K2s g fb mb N aq m W) (ha : aq.getD m false = true) :
    Calls Try.prog 9 #[.pointer (some ⟨g, 0, none⟩), .agg #[.int .i64 0, .int .i64 m]] W fun e w' => ∃ A n c, e = .returned (.tuple #[.slice A n c, .bool true]) ∧ K2s g fb mb N aq (m + 1) w' ∧ Kept (Cx g fb mb) W w' := by
  obtain ⟨fs, tb, h1, h2, h3, h4⟩ := h
  have hml : m < fs.length := by rw [h3]; exact hm
  obtain ⟨p1, _, _, p4⟩ := h4 m hml
  refine (get_hit h1 (0, (m : Int)) (kw2 0 m (by decide) (by omega)) m hml p1 (p4 h1m).1).mono (fun e w' he => ?_)
  obtain ⟨A, c, rfl, _, q1, q2⟩ := he
  refine ⟨A, _, c, rfl, ⟨_, _, q1, h2, by rw [List.length_set]; exact h3, fun i hi => ?_⟩, q2⟩
  rw [List.length_set] at hi
  obtain ⟨r1, r2, r3, r4⟩ := h4 i hi
  by_cases e : m = i
  · subst e
    rw [List.getElem_set_self]
    refine ⟨r1, r2, fun e => by omega, fun e => ⟨(r4 e).1, ?_⟩⟩
    show true = _
    rw [ha, decide_eq_true (by omega)]; rfl
  · rw [List.getElem_set_ne e]
    refine ⟨r1, r2, r3, fun e2 => ⟨(r4 e2).1, ?_⟩⟩
    rw [(r4 e2).2]
    by_cases e3 : i < m
    · rw [decide_eq_true e3, decide_eq_true (by omega)]
    · rw [decide_eq_false e3, decide_eq_false (by omega)]
theorem skip2 {g fb mb N m : Nat} {aq : List Bool} {W : World} (h : K2s g fb mb N aq m W) (ha : aq.getD m false = false) : K2s g fb mb N aq (m + 1) W := by
  obtain ⟨fs, tb, h1, h2, h3, h4⟩ := h
  refine ⟨fs, tb, h1, h2, h3, fun i hi => ?_⟩
  obtain ⟨r1, r2, r3, r4⟩ := h4 i hi
  refine ⟨r1, r2, r3, fun e2 => ⟨(r4 e2).1, ?_⟩⟩
  rw [(r4 e2).2]
  by_cases e3 : i < m
  · rw [decide_eq_true e3, decide_eq_true (by omega)]
  · by_cases e4 : i = m
    · subst e4; rw [ha, Bool.and_false, Bool.and_false]
    · rw [decide_eq_false e3, decide_eq_false (by omega)]
/-- The first of those below m that was not asked for; none: -1. -/
def WantIs (aq : List Bool) (m : Nat) (t : Int) : Prop := (t = -1 ∧ ∀ j, 1 ≤ j → j < m → aq.getD j false = true) ∨ ∃ u : Nat, t = (u : Int) ∧ 1 ≤ u ∧ u < m ∧ aq.getD u false = false ∧ ∀ j, 1 ≤ j → j < u → aq.getD j false = true
theorem put3 {g fb mb N : Nat} {aq : List Bool} {W : World} (h1N : 1 ≤ N) (hN : N ≤ 64) (h : K2s g fb mb N aq N W) (t : Int) (ht : WantIs aq N t) :
    Calls Try.prog 8 #[.pointer (some ⟨g, 0, none⟩), .agg #[.int .i64 0, .int .i64 101], .slice none 0 0, .bool false] W fun e w' => ∃ (x z : Int) (A : Option Addr) (n c : Nat) (d : Bool), e = .returned (.tuple #[.agg #[.int .i64 x, .int .i64 z, .slice A n c, .bool d, .bool true], .int .i64 0]) ∧ (0 ≤ t → z = t) ∧ (∃ fs tb hand, CaAt w' g fb mb N fs hand tb none ∧ tb.length = N) ∧ Kept (Cx g fb mb) W w' := by
  obtain ⟨fs, tb, h1, h2, h3, h4⟩ := h
  have hfull : ∀ f ∈ fs, f.full = true := fun f hf => by
    obtain ⟨j, hj, rfl⟩ := List.getElem_of_mem hf
    exact (h4 j hj).1
  have hv : vOf tb (0, 101) = none := by
    cases e : vOf tb (0, 101) with
    | none => rfl
    | some v =>
      exfalso
      obtain ⟨i, hi, _, _, q3, q4⟩ := h1.c2 _ _ e
      obtain ⟨_, _, r3, r4⟩ := h4 i hi
      by_cases e2 : i = 0
      · rw [(r3 e2).2] at q4; injection q4 with _ q4; cases q4
      · rw [(r4 (by omega)).1] at q4; injection q4 with _ q4; omega
  have key : ∃ n fs' i, ∃ hi : i < fs'.length, Stops N n fs (1 % N) fs' i ∧ (0 ≤ t → fs'[i].k.2 = t) ∧ ∃ hi2 : i < fs.length, fs'[i].k = fs[i].k := by
    rcases ht with ⟨rfl, ht⟩ | ⟨u, rfl, u1, u2, u3, u4⟩
    · obtain ⟨fs1, l1, e1, s1⟩ := stop_seg N (N - 1) 1 fs (by omega) h3 (fun j hj a b => ⟨(h4 j hj).2.1, by rw [((h4 j hj).2.2.2 a).2, ht j a (by omega), decide_eq_true (by omega)]; rfl⟩)
      have h00 : 0 < fs.length := by omega
      have h01 : 0 < fs1.length := by omega
      have hz : fs1[0] = fs[0] := by rw [e1 0 h00 h01, if_neg (by omega)]
      obtain ⟨fs2, l2, e2, s2⟩ := stop_seg N 1 0 fs1 (by omega) l1 (fun j hj a b => by
        have : j = 0 := by omega
        subst this
        rw [hz]
        exact ⟨(h4 0 h00).2.1, ((h4 0 h00).2.2.1 rfl).1⟩)
      have hi0 : 1 % N < fs.length := by rw [h3]; exact Nat.mod_lt _ (by omega)
      have hi1 : 1 % N < fs1.length := by rw [l1]; exact Nat.mod_lt _ (by omega)
      have hi2 : 1 % N < fs2.length := by rw [l2]; exact Nat.mod_lt _ (by omega)
      have hun : fs2[1 % N].mrk = false ∧ fs2[1 % N].pins = 0 ∧ fs2[1 % N].k = fs[1 % N].k := by
        rw [e2 (1 % N) hi1 hi2]
        by_cases hn : N = 1
        · subst hn
          have hx : fs1[1 % 1] = fs[1 % 1] := hz
          rw [if_pos (by omega), hx]
          exact ⟨rfl, (h4 0 h00).2.1, rfl⟩
        · have hm : 1 % N = 1 := Nat.mod_eq_of_lt (by omega)
          rw [if_neg (by omega), e1 (1 % N) hi0 hi1, if_pos (by omega)]
          exact ⟨rfl, (h4 _ hi0).2.1, rfl⟩
      obtain ⟨n2, s3⟩ := s2 0 fs2 (1 % N) (.here fs2 (1 % N) hi2 hun.2.1 hun.1)
      obtain ⟨n1, s4⟩ := s1 n2 fs2 (1 % N) (by rw [show 1 + (N - 1) = N from by omega, Nat.mod_self]; rw [Nat.zero_mod] at s3; exact s3)
      exact ⟨n1, fs2, 1 % N, hi2, s4, fun e => by omega, hi0, hun.2.2⟩
    · obtain ⟨fs1, l1, e1, s1⟩ := stop_seg N (u - 1) 1 fs (by omega) h3 (fun j hj a b => ⟨(h4 j hj).2.1, by rw [((h4 j hj).2.2.2 a).2, u4 j a (by omega), decide_eq_true (by omega)]; rfl⟩)
      have hu0 : u < fs.length := by omega
      have hu1 : u < fs1.length := by omega
      have hz : fs1[u] = fs[u] := by rw [e1 u hu0 hu1, if_neg (by omega)]
      obtain ⟨n1, s2⟩ := s1 0 fs1 u (by rw [show 1 + (u - 1) = u from by omega, Nat.mod_eq_of_lt u2]; exact .here fs1 u hu1 (by rw [hz]; exact (h4 u hu0).2.1) (by rw [hz, ((h4 u hu0).2.2.2 u1).2, u3, Bool.and_false]))
      exact ⟨n1, fs1, u, hu1, s2, fun _ => by rw [hz, ((h4 u hu0).2.2.2 u1).1], hu0, by rw [hz]⟩
  obtain ⟨n, fs', i, hi, s, hk1, hi2, hk2⟩ := key
  have hsome : (vOf tb fs'[i].k).isSome = true := by
    have := h1.c1 i hi2 (by simp) (h4 i hi2).1
    rw [hk2, this]; rfl
  have hne : ((0 : Int), (101 : Int)) ≠ fs'[i].k := by
    rw [hk2]
    obtain ⟨_, _, r3, r4⟩ := h4 i hi2
    by_cases e2 : i = 0
    · rw [(r3 e2).2]; decide
    · rw [(r4 (by omega)).1]; intro e; injection e with _ e; omega
  refine (put_evict h1 (0, 101) (kw2 0 101 (by decide) (by decide)) hv none [] 0 0 rfl (by decide) Rd.nil (fun a e => by cases e) false hfull 0 h1N (fun j hj hj2 => by omega) (fun hj => (h4 0 hj).2.1) n fs' i s hi (by omega)).mono (fun e w' he => ?_)
  obtain ⟨A2, c2, rfl, q1, q2⟩ := he
  refine ⟨_, _, _, _, _, _, rfl, hk1, ⟨_, _, _, q1, ?_⟩, q2⟩
  rw [set_len, vOf_del, if_neg hne, hv]
  have := del_len fs'[i].k tb h1.nodup
  rw [hsome] at this
  simp only [Option.isSome_none, Bool.false_eq_true, if_false]
  simp only [if_true] at this
  omega
end Go.Proofs.Ythmaofbnhfgfaaa
