/- Texts joined: CyH CyI ObI CbB StA CyJ IcZ StB. -/
import Derived.Test.YtbanbpphadgoiaaZa2
import Derived.Test.YtbanbpphadgoiaaObF
import Derived.Test.YtbanbpphadgoiaaSpD
import Derived.Test.YtbanbpphadgoiaaObD
import Derived.Lib.SmallJoins
/- What stays right while objects are taken over (pure). No conditions. -/
namespace Go.Proofs.Ytbanbpphadgoiaa
set_option linter.unusedVariables false
set_option linter.unusedSimpArgs false
open Go.RowKit Go.Maps
/-- Objects that may be copied: whole, apart, with pointers to each other. -/
structure Heap (ws : List (BitVec 64)) (l : List Nat) (b t : Nat) : Prop where
  tl : t ≤ ws.length
  wl : ws.length ≤ 8192
  good : ∀ a ∈ l, b ≤ a ∧ a < t ∧ goodX (ws.getD a 0#64) (t - a) = true
  gap : ∀ a ∈ l, ∀ i, 1 ≤ i → i < szX (ws.getD a 0#64) → a + i ∉ l
  ptr : ∀ a ∈ l, ∀ k, k < P0 (ws.getD a 0#64) → (ws.getD (a + 1 + k) 0#64).toNat = 0 ∨ (1 ≤ (ws.getD (a + 1 + k) 0#64).toNat ∧ (ws.getD (a + 1 + k) 0#64).toNat - 1 ∈ l)
def InvC (l : List Nat) (ws : List (BitVec 64)) (b t : Nat) (c : Cy) : Prop := OkC l b t c ∧ LenC c ∧ c.F.length = ws.length ∧ (∀ i, i ∉ l → c.F.getD i 0#64 = ws.getD i 0#64) ∧ (∀ a ∈ l, fM (c.F.getD a 0#64) = false → c.F.getD a 0#64 = ws.getD a 0#64)
/-- Copies of objects, one behind the other. -/
def Chain (ws T : List (BitVec 64)) : List Nat → Nat → Nat → Prop
  | [], p, q => p = q
  | a :: ys, p, q => (∀ i, i < szX (ws.getD a 0#64) → T.getD (p + i) 0#64 = ws.getD (a + i) 0#64) ∧ Chain ws T ys (p + szX (ws.getD a 0#64)) q
section
variable {ws T T' : List (BitVec 64)} {l : List Nat} {b t : Nat} {c d : Cy}
theorem Chain.le : ∀ {ys : List Nat} {p q : Nat}, Chain ws T ys p q → p ≤ q
  | [], _, _, h => by have h : _ = _ := h; omega
  | _ :: ys, _, _, h => by have := Chain.le (ys := ys) h.2; omega
theorem Chain.snoc : ∀ {ys : List Nat} {p q : Nat} {a : Nat}, Chain ws T ys p q → (∀ i, i < szX (ws.getD a 0#64) → T.getD (q + i) 0#64 = ws.getD (a + i) 0#64) → Chain ws T (ys ++ [a]) p (q + szX (ws.getD a 0#64))
  | [], p, q, a, h, k => by have h : p = q := h; subst h; exact ⟨k, rfl⟩
  | x :: ys, p, q, a, h, k => ⟨h.1, Chain.snoc (ys := ys) h.2 k⟩
theorem Chain.same : ∀ {ys : List Nat} {p q : Nat}, Chain ws T ys p q → (∀ i, p ≤ i → i < q → T'.getD i 0#64 = T.getD i 0#64) → Chain ws T' ys p q
  | [], _, _, h, _ => h
  | x :: ys, p, q, h, k => by
    have h2 := Chain.le (ys := ys) h.2
    exact ⟨fun i hi => by rw [k _ (by omega) (by omega)]; exact h.1 i hi, Chain.same (ys := ys) h.2 (fun i h1 h3 => k i (by omega) h3)⟩
theorem takeC_inv (H : Heap ws l b t) (h : InvC l ws b t c) {a u : Nat} (ha : a ∈ l) (e : takeC c a = some (u, d)) :
    InvC l ws b t d ∧ ((d = c ∧ fM (c.F.getD a 0#64) = true) ∨ (fM (c.F.getD a 0#64) = false ∧ d = movC c a ∧ u = c.top ∧ d.top = c.top + szX (ws.getD a 0#64) ∧ ∀ i, i < szX (ws.getD a 0#64) → d.T.getD (c.top + i) 0#64 = ws.getD (a + i) 0#64)) := by
  obtain ⟨h1, h2, h3, h4, h5⟩ := h
  obtain ⟨k1, k2, k3, k4, k5, k6, k7⟩ := takeC_ok h1 h2 ha e
  unfold takeC at e
  by_cases hm : fM (c.F.getD a 0#64) = true
  · rw [if_pos hm] at e
    injection e with e
    injection e with e1 e2
    subst e2
    exact ⟨⟨h1, h2, h3, h4, h5⟩, .inl ⟨rfl, hm⟩⟩
  · rw [if_neg hm] at e
    have hm2 : fM (c.F.getD a 0#64) = false := by simpa using hm
    by_cases hf : szX (c.F.getD a 0#64) ≤ c.T.length - c.top
    · rw [if_pos hf] at e
      injection e with e
      injection e with e1 e2
      have hx := h5 a ha hm2
      have hg := (H.good a ha).2.2
      have hn := size_pos hg
      have hal : a < c.F.length := by have := H.tl; have := (H.good a ha).2.1; omega
      have hF : (movC c a).F = c.F.set a (goneW c.top) := rfl
      subst e2
      refine ⟨⟨k1, k2, by rw [k4, h3], fun i hi => ?_, fun x hx2 hmx => ?_⟩, .inr ⟨hm2, rfl, e1.symm, by rw [← hx]; rfl, fun i hi => ?_⟩⟩
      · rw [hF, getD_set hal, if_neg (fun e0 => hi (by rw [← e0]; exact ha))]
        exact h4 i hi
      · rw [hF, getD_set hal] at hmx ⊢
        by_cases ex : a = x
        · rw [if_pos ex] at hmx
          obtain ⟨_, g2, _⟩ := gone_ok (u := c.top) (by have := h2.2.1; have := h2.2.2; have := k2.2.2; have := k2.2.1; omega)
          rw [g2] at hmx; cases hmx
        · rw [if_neg ex] at hmx ⊢
          exact h5 x hx2 hmx
      · rw [mov_get c a (c.top + i) (szX (ws.getD a 0#64)) (by rw [hx]) hn (by rw [hx] at hf; have := h2.2.2; omega), if_pos (by omega), show c.top + i - c.top = i from by omega]
        by_cases e0 : i = 0
        · subst e0; exact hx
        · exact h4 _ (H.gap a ha i (by omega) hi)
    · rw [if_neg hf] at e; cases e
theorem takeP_inv (H : Heap ws l b t) (h : InvC l ws b t c) {k q p0 : Nat} {ys : List Nat} (hk : k = 0 ∨ (1 ≤ k ∧ k - 1 ∈ l)) (hc : Chain ws c.T ys p0 c.top) (e : takeP c k = some (q, d)) :
    InvC l ws b t d ∧ ∃ ext, (∀ a ∈ ext, a ∈ l) ∧ Chain ws d.T (ys ++ ext) p0 d.top := by
  obtain ⟨_, _, _, _, _, _, k7, _⟩ := takeP_ok h.1 h.2.1 hk e
  cases k with
  | zero =>
    have e : some (0, c) = some (q, d) := e
    injection e with e
    injection e with e1 e2
    subst e2
    exact ⟨h, [], fun _ h => (by cases h), by rw [List.append_nil]; exact hc⟩
  | succ a =>
    have ha : a ∈ l := by
      rcases hk with hk | ⟨_, hk⟩
      · cases hk
      · simpa using hk
    have e : (takeC c a).map (fun r => (r.1 + 1, r.2)) = some (q, d) := e
    cases hr : takeC c a with
    | none => rw [hr] at e; cases e
    | some r =>
      rw [hr] at e
      injection e with e
      injection e with e1 e2
      obtain ⟨u, d'⟩ := r
      have e2 : d' = d := e2
      subst e2
      obtain ⟨j1, j2⟩ := takeC_inv H h ha hr
      refine ⟨j1, ?_⟩
      rcases j2 with ⟨rfl, _⟩ | ⟨_, _, _, j4, j5⟩
      · exact ⟨[], fun _ h => (by cases h), by rw [List.append_nil]; exact hc⟩
      · refine ⟨[a], fun x hx => by rw [List.mem_singleton.1 hx]; exact ha, ?_⟩
        rw [j4]
        exact (hc.same (fun i _ h2 => k7 i h2)).snoc j5
theorem scanC_inv (H : Heap ws l b t) {at_ P p1 : Nat} : ∀ (n i : Nat) (c : Cy) (ys : List Nat) {d : Cy}, n + i = P → InvC l ws b t c → at_ + 1 + P ≤ p1 → p1 ≤ c.top → PtL l c at_ P i → Chain ws c.T ys p1 c.top → (∀ a ∈ ys, a ∈ l) → scanC at_ n i c = some d →
    InvC l ws b t d ∧ (∃ ext, (∀ a ∈ ext, a ∈ l) ∧ Chain ws d.T (ys ++ ext) p1 d.top) ∧ c.top ≤ d.top ∧ d.T.length = c.T.length ∧ d.F.length = c.F.length ∧ (∀ j, j < c.top → ¬ (at_ + 1 + i ≤ j ∧ j < at_ + 1 + P) → d.T.getD j 0#64 = c.T.getD j 0#64)
  | 0, i, c, ys, d, _, h, _, _, _, hc, _, e => by
    have e : some c = some d := e
    injection e with e
    subst e
    exact ⟨h, ⟨[], fun _ h => (by cases h), by rw [List.append_nil]; exact hc⟩, Nat.le_refl _, rfl, rfl, fun _ _ _ => rfl⟩
  | n + 1, i, c, ys, d, hn, h, hp1, hpt, hp, hc, ha, e => by
    have hi : i < P := by omega
    have e : (match takeP c (c.T.getD (at_ + 1 + i) 0#64).toNat with | none => none | some (p, z) => scanC at_ n (i + 1) (setC z (at_ + 1 + i) p)) = some d := e
    cases hr : takeP c (c.T.getD (at_ + 1 + i) 0#64).toNat with
    | none => rw [hr] at e; cases e
    | some z =>
      obtain ⟨q, z⟩ := z
      rw [hr] at e
      obtain ⟨j1, j2, j3, j4, j5, j6, j7, j8, j9⟩ := scan_step h.1 h.2.1 hi (by omega) hp hr
      obtain ⟨k1, ext, k2, k3⟩ := takeP_inv H h (hp i (Nat.le_refl _) hi) hc hr
      have hin : at_ + 1 + i < z.T.length := by have := h.2.1.2.2; omega
      have hset : Chain ws (setC z (at_ + 1 + i) q).T (ys ++ ext) p1 (setC z (at_ + 1 + i) q).top := by
        refine k3.same (fun j h1 _ => ?_)
        unfold setC
        rw [getD_set hin, if_neg (by omega)]
      obtain ⟨m1, ⟨ext2, m2, m3⟩, m4, m5, m6, m7⟩ := scanC_inv H n (i + 1) (setC z (at_ + 1 + i) q) (ys ++ ext) (by omega) ⟨j1, j2, k1.2.2.1, k1.2.2.2.1, k1.2.2.2.2⟩ hp1 (show p1 ≤ z.top by omega) j3 hset (fun a h2 => (List.mem_append.1 h2).elim (ha a) (k2 a)) e
      refine ⟨m1, ⟨ext ++ ext2, fun a h2 => (List.mem_append.1 h2).elim (k2 a) (m2 a), by rw [← List.append_assoc]; exact m3⟩, ?_, ?_, ?_, fun j hj hne => ?_⟩
      · have : (setC z (at_ + 1 + i) q).top = z.top := rfl
        omega
      · rw [m5]; show ((z.T.set _ _).length) = _; rw [List.length_set, j6]
      · rw [m6]; show z.F.length = _; rw [j7]
      · rw [m7 j (show j < z.top by omega) (by omega)]
        exact j9 j hj (by omega)
/-- Of an object that is next: its header, its pointers. -/
theorem next_obj (H : Heap ws l b t) (h : InvC l ws b t c) {at_ : Nat} {ys : List Nat} (hc : Chain ws c.T ys at_ c.top) (ha : ∀ a ∈ ys, a ∈ l) (hlt : at_ < c.top) :
    ∃ a ys2, ys = a :: ys2 ∧ a ∈ l ∧ c.T.getD at_ 0#64 = ws.getD a 0#64 ∧ goodX (c.T.getD at_ 0#64) (c.top - at_) = true ∧ PtL l c at_ (P0 (c.T.getD at_ 0#64)) 0 ∧ at_ + 1 + P0 (c.T.getD at_ 0#64) ≤ at_ + szX (c.T.getD at_ 0#64) ∧ at_ + szX (c.T.getD at_ 0#64) ≤ c.top ∧ Chain ws c.T ys2 (at_ + szX (c.T.getD at_ 0#64)) c.top ∧ 1 ≤ szX (c.T.getD at_ 0#64) := by
  cases ys with
  | nil => have hc : at_ = c.top := hc; omega
  | cons a ys2 =>
    have hal := ha a (.head _)
    have hg := (H.good a hal).2.2
    have hn := size_pos hg
    have hx := hc.1 0 (by omega)
    rw [Nat.add_zero, Nat.add_zero] at hx
    have hle := hc.2.le
    obtain ⟨_, _, _, hsz, _, _⟩ := head_of hg
    refine ⟨a, ys2, rfl, hal, hx, ?_, ?_, ?_, ?_, ?_, ?_⟩
    · rw [hx]
      unfold goodX at hg ⊢
      simp only [Bool.and_eq_true, decide_eq_true_eq] at hg ⊢
      exact ⟨hg.1, hg.2.1, by omega⟩
    · rw [hx]
      intro k _ hk
      have := hc.1 (1 + k) (by omega)
      rw [show at_ + 1 + k = at_ + (1 + k) from by omega, this, show a + (1 + k) = a + 1 + k from by omega]
      exact H.ptr a hal k hk
    · rw [hx]; omega
    · rw [hx]; omega
    · rw [hx]; exact hc.2
    · rw [hx]; exact hn
end
def copyC (ws : List (BitVec 64)) (m : Nat) (ps : List Nat) : Option (List Nat × Cy) := match rootsC ps ⟨ws, List.replicate m 0#64, 0⟩ with
  | none => none
  | some (qs, c) => (goC (m + 1) 0 c).map fun d => (qs, d)
end Go.Proofs.Ytbanbpphadgoiaa
/- Copy. Conditions: lengths; the space is well, the roots are known. -/
namespace Go.Proofs.Ytbanbpphadgoiaa
set_option linter.unusedVariables false
set_option linter.unusedSimpArgs false
open Go.RowKit Go.Maps
theorem objF_gap {ws : List (BitVec 64)} {top : Nat} : ∀ (n a : Nat) (l : List Nat), objF ws top n a = some l → ∀ x ∈ l, ∀ i, 1 ≤ i → i < szX (ws.getD x 0#64) → x + i ∉ l
  | 0, a, l, h, x, hx => by injection h with h; subst h; cases hx
  | n + 1, a, l, h, x, hx => by
    have e : objF ws top (n + 1) a = if a < top then (if goodX (ws.getD a 0#64) (top - a) = true then (objF ws top n (a + szX (ws.getD a 0#64))).map (a :: ·) else none) else some [] := rfl
    rw [e] at h
    by_cases c : a < top
    · rw [if_pos c] at h
      by_cases d : goodX (ws.getD a 0#64) (top - a) = true
      · rw [if_pos d] at h
        cases hr : objF ws top n (a + szX (ws.getD a 0#64)) with
        | none => rw [hr] at h; cases h
        | some r =>
          rw [hr] at h
          injection h with h
          subst h
          have hge : ∀ y ∈ r, a + szX (ws.getD a 0#64) ≤ y := fun y hy => (objF_mem n _ r hr y hy).1
          have hs := size_pos d
          intro i h1 h2 h3
          rcases List.mem_cons.1 hx with rfl | hx
          · rcases List.mem_cons.1 h3 with h3 | h3
            · omega
            · have := hge _ h3; omega
          · have h4 := hge _ hx
            rcases List.mem_cons.1 h3 with h3 | h3
            · omega
            · exact objF_gap n _ r hr x hx i h1 h2 h3
      · rw [if_neg d] at h; cases h
    · rw [if_neg c] at h
      injection h with h
      subst h
      cases hx
theorem heap_of {ws : List (BitVec 64)} {l : List Nat} {b t : Nat} (ho : objF ws t (t + 1) b = some l) (hw : l.all (wellN ws l) = true) (htl : t ≤ ws.length) (hl : ws.length ≤ 8192) : Heap ws l b t where
  tl := htl
  wl := hl
  good := objF_mem _ _ _ ho
  gap := objF_gap _ _ _ ho
  ptr := fun a ha k hk => by
    have h1 := List.all_eq_true.1 hw a ha
    unfold wellN at h1
    rw [Bool.and_eq_true] at h1
    have h2 := List.all_eq_true.1 h1.1 k (List.mem_range.2 hk)
    unfold ptrN at h2
    exact of_decide_eq_true h2
theorem inv_start {ws : List (BitVec 64)} {l : List Nat} {b t m : Nat} (H : Heap ws l b t) (hm : m ≤ 8192) : InvC l ws b t ⟨ws, List.replicate m 0#64, 0⟩ :=
  ⟨fun a ha => ⟨(H.good a ha).1, (H.good a ha).2.1, H.tl, (goodX_out (H.good a ha).2.2).1, .inr (H.good a ha).2.2⟩, ⟨H.wl, by simp; omega, Nat.zero_le _⟩, rfl, fun _ _ => rfl, fun _ _ _ => rfl⟩
def finC (m : Nat) (c : Cy) (qs : List Nat) : Option (List Nat × Cy) := (goC (m + 1) 0 c).map fun d => (qs, d)
def contC (m : Nat) (ps : List Nat) (c : Cy) (qs : List Nat) : Option (List Nat × Cy) := match rootsC ps c with
  | none => none
  | some (q2, c2) => finC m c2 (qs ++ q2)
theorem contC_cons (m p : Nat) (ps : List Nat) (c : Cy) (qs : List Nat) : contC m (p :: ps) c qs = match takeP c p with
  | none => none
  | some (q, d) => contC m ps d (qs ++ [q]) := by
  unfold contC
  show (match (match takeP c p with | none => none | some (q, d) => match rootsC ps d with | none => none | some (qs, e) => some (q :: qs, e)) with | none => none | some (q2, c2) => finC m c2 (qs ++ q2)) = _
  cases takeP c p with
  | none => rfl
  | some z =>
    obtain ⟨q, d⟩ := z
    simp only
    cases rootsC ps d with
    | none => rfl
    | some z => obtain ⟨q2, e⟩ := z; simp only [List.append_assoc, List.singleton_append]
theorem copyC_cont (ws : List (BitVec 64)) (m : Nat) (ps : List Nat) : copyC ws m ps = contC m ps ⟨ws, List.replicate m 0#64, 0⟩ [] := by
  unfold copyC contC
  cases rootsC ps ⟨ws, List.replicate m 0#64, 0⟩ with
  | none => rfl
  | some z => obtain ⟨q, d⟩ := z; simp only [List.nil_append]; rfl
def rootP (r : Int) : Nat := (r + 1).toNat
theorem rootP_of {l : List Nat} {r : Int} (h : rootB l r = true) : r = (rootP r : Int) - 1 ∧ (rootP r = 0 ∨ (1 ≤ rootP r ∧ rootP r - 1 ∈ l)) := by
  unfold rootB at h
  rcases of_decide_eq_true h with rfl | ⟨y, hy, rfl⟩
  · exact ⟨rfl, .inl rfl⟩
  · have e : rootP (y : Int) = y + 1 := by unfold rootP; omega
    rw [e]
    exact ⟨by omega, .inr ⟨by omega, by simpa using hy⟩⟩
def backZ (qs : List Nat) : List Int := qs.map (fun q : Nat => (q : Int) - 1)
section
variable {B H1 H2 C s1 g1 : Nat} {v1 : Value} {s2 g2 : Nat} {v2 : Value} {b t e : Nat} {c : Cy}
set_option maxHeartbeats 1000000
set_option maxRecDepth 100000
theorem ctop_c (w : World) (p : CyAt w B H1 H2 C s1 g1 v1 s2 g2 v2 b t e c) : Calls Try.prog 46 #[.pointer (some ⟨C, 0, none⟩)] w (RetP (.int .i64 c.top) w) := by
  obtain ⟨c0, c1⟩ := p.blk.two
  obtain ⟨f0, f1, f2, f3⟩ := p.to_.four
  clear p
  go_enter Try.func46, Try.ntmps46
  go_wp2_with fail
  go_ret
  exact ⟨rfl, Below.refl _ _⟩
theorem cspace_c (w : World) (p : CyAt w B H1 H2 C s1 g1 v1 s2 g2 v2 b t e c) (hl : c.T.length ≤ 8192) : Calls Try.prog 45 #[.pointer (some ⟨C, 0, none⟩)] w fun r w' => ∃ s' g' v', r = .returned (.pointer (some ⟨s', 0, none⟩)) ∧ SpAt w' w.heap.size s' g' v' c.T 0 c.top c.T.length ∧ Below w.heap.size w w' := by
  have HA := Lib.hid (apart_c w B s2 g2 v2 c.T 0 c.top c.T.length p.to_ (by omega))
  obtain ⟨c0, c1⟩ := p.blk.two
  clear p hl
  go_enter Try.func45, Try.ntmps45
  go_wp2_with fail
  refine Calls.mono HA.out ?_
  rintro r w5 ⟨s1, g1, v1, rfl, hp5, b5⟩
  have H5 := Lib.hid (And.intro hp5 b5)
  clear hp5 b5
  go_wp2_with fail
  go_ret
  exact ⟨s1, g1, v1, rfl, H5.out.1, H5.out.2⟩
end
theorem CyAt.kept {S : Nat → Prop} {W W' : World} {B H1 H2 C s1 g1 : Nat} {v1 : Value} {s2 g2 : Nat} {v2 : Value} {b t e : Nat} {c : Cy} (h : CyAt W B H1 H2 C s1 g1 v1 s2 g2 v2 b t e c) (k : Kept S W W') (hS : ∀ j, S j → C < j) : CyAt W' B H1 H2 C s1 g1 v1 s2 g2 v2 b t e c := by
  have q1 := h.s2H
  have q2 := h.HC
  have n : ∀ j, j ≤ C → ¬ S j := fun j hj hs => by have := hS j hs; omega
  refine ⟨k.bk h.blk (n _ (Nat.le_refl _)), h.fr.kept k (n _ (Nat.le_of_lt h.s1C)) (n _ (Nat.le_of_lt h.g1C)) (fun j hj => n _ (Nat.le_of_lt (h.v1C j hj))), h.to_.kept k (n _ (by omega)) (n _ (by have := h.g2H; omega)) (fun j hj => n _ (by have := h.v2H j hj; omega)), h.g2H, h.v2H, h.s2H, h.s1C, h.g1C, h.v1C, h.HC, h.BH⟩
theorem backZ_set (qs : List Nat) (q n k : Nat) (hk : qs.length = k) (h : k < n) : (backZ qs ++ List.replicate (n - k) 0).set k ((q : Int) - 1) = backZ (qs ++ [q]) ++ List.replicate (n - (k + 1)) 0 := by
  have e : List.replicate (n - k) (0 : Int) = 0 :: List.replicate (n - (k + 1)) 0 := by rw [← List.replicate_succ]; congr 1; omega
  have l : (backZ qs).length = k := by unfold backZ; rw [List.length_map, hk]
  rw [e, List.set_append_right _ _ (by rw [l]; exact Nat.le_refl _), l, Nat.sub_self, List.set_cons_zero]
  unfold backZ
  rw [List.map_append, List.append_assoc]
  rfl
def CopyR (w : World) (m n : Nat) (x : Option (List Nat × Cy)) (r : Ending) (w' : World) : Prop := match x with
  | some (qs, d) => ∃ s' g' v' q, r = .returned (.tuple #[.pointer (some ⟨s', 0, none⟩), .slice (some ⟨q, 0, none⟩) n n, .int .i64 0]) ∧ SpAt w' w.heap.size s' g' v' d.T 0 d.top m ∧ d.T.length = m ∧ Ow zV 3 w' w.heap.size (.slice (some ⟨q, 0, none⟩) n n) (backZ qs) ∧ Below w.heap.size w w'
  | none => RetP (.tuple #[.pointer none, .slice none 0 0, .int .i64 6]) w r w'
set_option maxHeartbeats 4000000
set_option maxRecDepth 100000
theorem copy_c (w : World) (B s g : Nat) (v : Value) (ws : List (BitVec 64)) (b t e : Nat) (p : SpAt w B s g v ws b t e) (hl : ws.length ≤ 8192) (l : List Nat) (ho : objF ws t (t + 1) b = some l) (hw : l.all (wellN ws l) = true) (A : Option Addr) (roots : List Int) (ca : Nat) (hr : Rd zV w w.heap.size A roots) (hrl : roots.length ≤ 100000) (hrw : ∀ r ∈ roots, kW r) (hra : roots.all (rootB l) = true) (m : Nat) (hm : m ≤ 8192) :
    Calls Try.prog 24 #[.pointer (some ⟨s, 0, none⟩), .slice A roots.length ca, .int .i64 m] w (CopyR w m roots.length (copyC ws m (roots.map rootP))) := by
  have hE : checkE ws b t roots = 0 := by unfold checkE; rw [ho]; simp only; rw [if_pos hw, if_pos hra]
  have HNw := Lib.hid (cnew_ok w B s g v ws b t e p hl A roots ca hr hrl hrw m hm hE)
  have HH := Lib.hid (heap_of ho hw (by have := p.te; have := p.el; omega) hl)
  have HRd := Lib.hid hr
  have HRa := Lib.hid hra
  have HM8 := Lib.hid hm
  obtain ⟨R, hR⟩ : ∃ R, R = copyC ws m (roots.map rootP) := ⟨_, rfl⟩
  have HR := Lib.hid (show contC m (roots.map rootP) ⟨ws, List.replicate m 0#64, 0⟩ [] = R from by rw [hR, copyC_cont])
  obtain ⟨n, hn⟩ : ∃ n, n = roots.length := ⟨_, rfl⟩
  have HN := Lib.hid hn
  have n8 : (n : Int) ≤ 100000 := by omega
  have m8 : (m : Int) ≤ 8192 := by omega
  have HLb : Hid (∀ y ∈ l, y < 8192) := Lib.hid (fun y hy => by have := (HH.out.good y hy).2.1; have := HH.out.tl; omega)
  rw [← hR]
  rw [← hn] at HNw ⊢
  clear p ho hw hr hrl hrw hra hm hR hn hE hl
  go_enter Try.func24, Try.ntmps24
  go_wp2_with fail
  refine Calls.mono HNw.out ?_
  rintro r w2 ⟨H1, H2, C, s1, g1, v1, s2, g2, v2, rfl, hc2, b2⟩
  have HC2 := Lib.hid (And.intro hc2 b2)
  have hCl := hc2.blk.lt
  clear hc2 b2 HNw
  go_wp2_with (at_make; refine wp_make (f := zV) oneI rfl _ _ rfl 0 rfl w2.heap.size n _ _ _ _ rfl rfl rfl rfl (by omega) (by decide) (Nat.le_refl _) ?_; rintro q w3 hq ho3 hb3 _; have H3 := Lib.hid (And.intro ho3 hb3); clear hq ho3 hb3)
  have hqD := H3.out.1.ge
  have HS3 : Hid (CyAt w3 w.heap.size H1 H2 C s1 g1 v1 s2 g2 v2 b t e ⟨ws, List.replicate m 0#64, 0⟩ ∧ Below w.heap.size w w3) := Lib.hid ⟨HC2.out.1.below H3.out.2, HC2.out.2.trans (H3.out.2.mono HC2.out.2.size)⟩
  obtain ⟨D, hD⟩ : ∃ D, D = w2.heap.size := ⟨_, rfl⟩
  rw [← hD] at H3 hqD
  have HD := Lib.hid (show C < D ∧ w.heap.size ≤ D from by rw [hD]; exact ⟨hCl, HC2.out.2.size⟩)
  have HqD := Lib.hid hqD.1
  clear hD HC2 hCl hqD
  go_wp2_with fail
  go_loopw [30] (fun x W => ∃ k : Nat, x = .int .i64 k ∧ k ≤ n ∧ Hid (∃ d qs ys, CyAt W w.heap.size H1 H2 C s1 g1 v1 s2 g2 v2 b t e d ∧ InvC l ws b t d ∧ (∀ a ∈ ys, a ∈ l) ∧ Chain ws d.T ys 0 d.top ∧ d.T.length = m ∧ qs.length = k ∧ Ow zV 3 W D (.slice (some ⟨q, 0, none⟩) n n) (backZ qs ++ List.replicate (n - k) 0) ∧ Below w.heap.size w W ∧ contC m ((roots.map rootP).drop k) d qs = R)) (fun x _ => n - (Go.RowKit.intOf x).toNat)
  case atStart => exact ⟨0, rfl, Nat.zero_le _, Lib.hid ⟨_, [], [], HS3.out.1, inv_start HH.out HM8.out, fun _ h => (by cases h), rfl, by simp, rfl, H3.out.1, HS3.out.2, HR.out⟩⟩
  case round =>
    obtain ⟨k, rfl, hk, hS⟩ := hrel
    obtain ⟨d, qs, ys, e1, e2, e3, e4, e5, e6, e7, e8, e9⟩ := hS.out
    by_cases hlt : k < n
    · have hkl : k < roots.length := by rw [← HN.out]; exact hlt
      obtain ⟨y, hy⟩ : ∃ y, y = roots[k] := ⟨_, rfl⟩
      obtain ⟨ad, rfl, _, hc⟩ := (HRd.out.below e8) k hkl
      rw [← hy] at hc
      unfold zV at hc
      obtain ⟨hyp, hyk⟩ := rootP_of (List.all_eq_true.1 HRa.out y (by rw [hy]; exact List.getElem_mem _))
      have hdr : (roots.map rootP).drop k = rootP y :: (roots.map rootP).drop (k + 1) := by
        rw [List.drop_eq_getElem_cons (by rw [List.length_map]; exact hkl), List.getElem_map, hy]
      rw [hdr, contC_cons] at e9
      have HTk := Lib.hid (takeP_c wr e1 e2.2.1 e2.1 (rootP y) hyk)
      rw [← hyp] at HTk
      have hrow := e7.cell (j := k) (by simp [backZ, e6]; omega)
      have hfre := e7.free k
      have hlq : k < (backZ qs ++ List.replicate (n - k) 0).length := by simp [backZ, e6]; omega
      have p1 : (0 : Int) ≤ (k : Int) := by omega
      have p2 : (k : Int) < (n : Int) := by omega
      have hqn : ¬ CyS s2 v1 v2 q := CyS.not_ge e1.lt_C (by have := HD.out.1; have := HqD.out; omega)
      cases hr : takeP d (rootP y) with
      | none =>
        rw [hr] at HTk e9
        have HRn := Lib.hid (show R = none from e9.symm)
        have HTn := Lib.hid (show Calls Try.prog 51 #[.pointer (some ⟨C, 0, none⟩), .int .i64 y] wr (GoP wr w.heap.size H1 H2 C s1 g1 v1 s2 g2 v2 b t e 0 6 d) from HTk.out)
        have HE := Lib.hid (And.intro e7 (And.intro e8 (And.intro e1.keptC (And.intro hqn hlq))))
        clear hy hyp hyk hdr hr HTk e1 e2 e3 e4 e5 e6 e7 e8 e9 hrow hfre hS hqn hlq hkl
        go_wp2_with fail
        refine Calls.mono HTn.out ?_
        rintro r w7 ⟨rfl, m7, g7⟩
        have ho7 := g7.ow HE.out.1 (fun k hk => by injection hk with hk; subst hk; exact HE.out.2.2.2.1)
        have hrow := ho7.cell HE.out.2.2.2.2
        have hfre := ho7.free k
        have hqs := ho7.ge.2
        have H7 := Lib.hid (show Below w.heap.size w w7 from HE.out.2.1.trans (g7.below HE.out.2.1.size HE.out.2.2.1.2))
        have hqw := HqD.out
        have hDw := HD.out.2
        clear m7 g7 ho7 hc
        go_wp2_with fail
        go_ret3
        rw [HRn.out]
        exact ⟨rfl, H7.out.setCell (show w.heap.size ≤ q by omega) _⟩
      | some z =>
        obtain ⟨q', z⟩ := z
        rw [hr] at HTk e9
        obtain ⟨k1, ext, k2, k3⟩ := takeP_inv HH.out e2 hyk e4 hr
        have hlen := (takeP_ok e2.1 e2.2.1 hyk hr).2.2.2.2.1
        obtain ⟨zv, hzv⟩ : ∃ zv, zv = (q' : Int) - 1 := ⟨_, rfl⟩
        have HTn := Lib.hid (show Calls Try.prog 51 #[.pointer (some ⟨C, 0, none⟩), .int .i64 y] wr (GoP wr w.heap.size H1 H2 C s1 g1 v1 s2 g2 v2 b t e zv 0 z) from hzv ▸ HTk.out)
        have HE := Lib.hid (And.intro e7 (And.intro e8 (And.intro e1.keptC (And.intro hqn hlq))))
        have HNx := Lib.hid (show InvC l ws b t z ∧ (∀ a ∈ ys ++ ext, a ∈ l) ∧ Chain ws z.T (ys ++ ext) 0 z.top ∧ z.T.length = m ∧ (qs ++ [q']).length = k + 1 ∧ (backZ qs ++ List.replicate (n - k) 0).set k zv = backZ (qs ++ [q']) ++ List.replicate (n - (k + 1)) 0 ∧ contC m ((roots.map rootP).drop (k + 1)) z (qs ++ [q']) = R from
          ⟨k1, fun a h => (List.mem_append.1 h).elim (e3 a) (k2 a), k3, hlen.trans e5, by simp [e6], by rw [hzv]; exact backZ_set qs q' n k e6 hlt, e9⟩)
        clear hy hyp hyk hdr hr HTk e1 e2 e3 e4 e5 e6 e7 e8 e9 hrow hfre hS hqn hlq hkl k1 k2 k3 hlen hzv
        go_wp2_with fail
        refine Calls.mono HTn.out ?_
        rintro r w7 ⟨rfl, m7, g7⟩
        have ho7 := g7.ow HE.out.1 (fun k hk => by injection hk with hk; subst hk; exact HE.out.2.2.2.1)
        have hrow := ho7.cell HE.out.2.2.2.2
        have hfre := ho7.free k
        have hqs := ho7.ge.2
        have hqw := HqD.out
        have hDw := HD.out.2
        have hDc := HD.out.1
        have H7 := Lib.hid (show ∃ d qs ys, CyAt (w7.setCell ⟨q, k, none⟩ (zV zv)) w.heap.size H1 H2 C s1 g1 v1 s2 g2 v2 b t e d ∧ InvC l ws b t d ∧ (∀ a ∈ ys, a ∈ l) ∧ Chain ws d.T ys 0 d.top ∧ d.T.length = m ∧ qs.length = k + 1 ∧ Ow zV 3 (w7.setCell ⟨q, k, none⟩ (zV zv)) D (.slice (some ⟨q, 0, none⟩) n n) (backZ qs ++ List.replicate (n - (k + 1)) 0) ∧ Below w.heap.size w (w7.setCell ⟨q, k, none⟩ (zV zv)) ∧ contC m ((roots.map rootP).drop (k + 1)) d qs = R from
          ⟨z, _, _, m7.kept (Kept.set w7 q k (zV zv)) (fun j hj => by omega), HNx.out.1, HNx.out.2.1, HNx.out.2.2.1, HNx.out.2.2.2.1, HNx.out.2.2.2.2.1, by have := ho7.set HE.out.2.2.2.2 zv; rw [HNx.out.2.2.2.2.2.1] at this; exact this, (HE.out.2.1.trans (g7.below HE.out.2.1.size HE.out.2.2.1.2)).setCell (show w.heap.size ≤ q by omega) _, HNx.out.2.2.2.2.2.2⟩)
        clear m7 g7 ho7 hc
        go_wp2_with fail
        go_roundw
        case rel => first | exact ⟨k + 1, by go_num, by omega, H7⟩ | ((repeat apply Exists.intro); refine ⟨?_, rfl⟩; exact ⟨k + 1, by go_num, by omega, H7⟩)
        case measure => simp [Go.RowKit.intOf]; omega
    · have hnk : n = k := by omega
      subst hnk
      have e9' : finC m d qs = R := by
        rw [← e9, List.drop_of_length_le (by rw [List.length_map, ← HN.out]; exact Nat.le_refl _)]
        show _ = finC m d (qs ++ [])
        rw [List.append_nil]
      have e7' : Ow zV 3 wr D (.slice (some ⟨q, 0, none⟩) n n) (backZ qs) := by
        have := e7
        rwa [Nat.sub_self, List.replicate_zero, List.append_nil] at this
      have HE := Lib.hid (show ∃ d ys, CyAt wr w.heap.size H1 H2 C s1 g1 v1 s2 g2 v2 b t e d ∧ InvC l ws b t d ∧ (∀ a ∈ ys, a ∈ l) ∧ Chain ws d.T ys 0 d.top ∧ d.T.length = m ∧ Ow zV 3 wr D (.slice (some ⟨q, 0, none⟩) n n) (backZ qs) ∧ Below w.heap.size w wr ∧ ((goC (m + 1) 0 d).map fun d => (qs, d)) = R from ⟨d, ys, e1, e2, e3, e4, e5, e7', e8, e9'⟩)
      obtain ⟨w5, hw5⟩ : ∃ w5, w5 = wr := ⟨_, rfl⟩
      rw [← hw5] at HE ⊢
      clear e1 e2 e3 e4 e5 e6 e7 e8 e9 e7' e9' hS hlt hk hw5
      go_wp2_with fail
      go_loopw [14] (fun x W => ∃ at_ : Nat, x = .int .i64 at_ ∧ at_ ≤ m ∧ Hid (∃ d ys f, CyAt W w.heap.size H1 H2 C s1 g1 v1 s2 g2 v2 b t e d ∧ InvC l ws b t d ∧ (∀ a ∈ ys, a ∈ l) ∧ Chain ws d.T ys at_ d.top ∧ d.T.length = m ∧ Ow zV 3 W D (.slice (some ⟨q, 0, none⟩) n n) (backZ qs) ∧ Below w.heap.size w W ∧ m + 1 ≤ at_ + f ∧ ((goC f at_ d).map fun d => (qs, d)) = R)) (fun x _ => m - (Go.RowKit.intOf x).toNat)
      case atStart =>
        obtain ⟨d, ys, e1, e2, e3, e4, e5, e6, e7, e8⟩ := HE.out
        exact ⟨0, rfl, Nat.zero_le _, Lib.hid ⟨d, ys, m + 1, e1, e2, e3, e4, e5, e6, e7, by omega, e8⟩⟩
      case round =>
        obtain ⟨at_, rfl, hat, hS⟩ := hrel
        obtain ⟨d, ys, f, e1, e2, e3, e4, e5, e6, e7, e8, e9⟩ := hS.out
        have HTp := Lib.hid (ctop_c wr e1)
        obtain ⟨tp, htp⟩ : ∃ tp, tp = d.top := ⟨_, rfl⟩
        rw [← htp] at HTp
        have htm : tp ≤ m := by have := e2.2.1.2.2; omega
        have p0 : (0 : Int) ≤ (at_ : Int) := by omega
        have p3 : (at_ : Int) ≤ 8192 := by omega
        have hle := e4.le
        by_cases hlt : at_ < tp
        · have p1 : (at_ : Int) < (tp : Int) := by omega
          obtain ⟨a, ys2, rfl, n1, n2, n3, n4, n5, n6, n7, n8'⟩ := next_obj HH.out e2 e4 e3 (by omega)
          obtain ⟨f', rfl⟩ : ∃ f', f = f' + 1 := ⟨f - 1, by omega⟩
          have hgo : goC (f' + 1) at_ d = match scanC at_ (P0 (d.T.getD at_ 0#64)) 0 d with
              | none => none
              | some z => goC f' (at_ + szX (z.T.getD at_ 0#64)) z := by
            show (if at_ < d.top then _ else _) = _
            rw [if_pos (by omega)]
            cases scanC at_ (P0 (d.T.getD at_ 0#64)) 0 d <;> rfl
          rw [hgo] at e9
          have HSc := Lib.hid (fun W (hb : Below wr.heap.size wr W) => scan_c W (e1.below hb) e2.2.1 e2.1 at_ (by omega) n3 n4 HLb.out)
          have hqn : ¬ CyS s2 v1 v2 q := CyS.not_ge e1.lt_C (by have := HD.out.1; have := HqD.out; omega)
          obtain ⟨sz, hsz⟩ : ∃ sz, sz = szX (d.T.getD at_ 0#64) := ⟨_, rfl⟩
          obtain ⟨nx, hnx⟩ : ∃ nx, nx = at_ + sz := ⟨_, rfl⟩
          rw [← hsz, ← hnx] at HSc
          cases hr : scanC at_ (P0 (d.T.getD at_ 0#64)) 0 d with
          | none =>
            rw [hr] at HSc e9
            have HRn := Lib.hid (show R = none from e9.symm)
            have HSn := Lib.hid (show ∀ W, Below wr.heap.size wr W → Calls Try.prog 52 #[.pointer (some ⟨C, 0, none⟩), .int .i64 at_] W (fun r w' => r = .returned (.tuple #[.int .i64 0, .int .i64 6]) ∧ (∃ d, CyAt w' w.heap.size H1 H2 C s1 g1 v1 s2 g2 v2 b t e d) ∧ Kept (CyS s2 v1 v2) W w') from HSc.out)
            have HE2 := Lib.hid (And.intro e7 e1.keptC.2)
            clear n1 n2 n3 n4 n5 n6 n7 n8' hgo e1 e2 e3 e4 e5 e6 e7 e8 e9 hS HSc hr hsz hnx hle htm htp hat
            go_wp2_with fail
            refine Calls.mono HTp.out ?_
            rintro r w6 ⟨rfl, b6⟩
            have H6 := Lib.hid b6
            clear b6
            go_wp2_with fail
            refine Calls.mono (HSn.out w6 H6.out) ?_
            rintro r w7 ⟨rfl, _, g7⟩
            have H7 := Lib.hid (show Below w.heap.size w w7 from (HE2.out.1.trans (H6.out.mono HE2.out.1.size)).trans (g7.below (Nat.le_trans HE2.out.1.size H6.out.size) HE2.out.2))
            clear g7
            go_wp2_with fail
            go_ret3
            rw [HRn.out]
            exact ⟨rfl, H7.out⟩
          | some z =>
            rw [hr] at HSc e9
            obtain ⟨j1, ⟨ext, j2, j3⟩, j4, j5, j6, j7⟩ := scanC_inv HH.out (P0 (d.T.getD at_ 0#64)) 0 d ys2 (by omega) e2 n5 n6 n4 n7 (fun a h => e3 a (.tail _ h)) hr
            have hza : z.T.getD at_ 0#64 = d.T.getD at_ 0#64 := j7 at_ (by omega) (by omega)
            have e9 : Option.map (fun d => (qs, d)) (goC f' (at_ + szX (z.T.getD at_ 0#64)) z) = R := e9
            rw [hza, ← hsz, ← hnx] at e9
            have HSn := Lib.hid (show ∀ W, Below wr.heap.size wr W → Calls Try.prog 52 #[.pointer (some ⟨C, 0, none⟩), .int .i64 at_] W (fun r w' => r = .returned (.tuple #[.int .i64 (nx : Int), .int .i64 0]) ∧ CyAt w' w.heap.size H1 H2 C s1 g1 v1 s2 g2 v2 b t e z ∧ Kept (CyS s2 v1 v2) W w' ∧ OkC l b t z ∧ LenC z ∧ d.top ≤ z.top ∧ z.T.length = d.T.length ∧ z.F.length = d.F.length) from HSc.out)
            have HE2 := Lib.hid (And.intro e7 (And.intro e1.keptC.2 (And.intro e6 hqn)))
            have HNx := Lib.hid (show InvC l ws b t z ∧ (∀ a ∈ ys2 ++ ext, a ∈ l) ∧ Chain ws z.T (ys2 ++ ext) nx z.top ∧ z.T.length = m ∧ m + 1 ≤ nx + f' ∧ ((goC f' nx z).map fun d => (qs, d)) = R ∧ nx ≤ m from
              ⟨j1, fun a h => (List.mem_append.1 h).elim (fun h => e3 a (.tail _ h)) (j2 a), by rw [hnx, hsz]; exact j3, j5.trans e5, by omega, e9, by rw [hnx, hsz]; omega⟩)
            have hnl : at_ < nx := by rw [hnx, hsz]; omega
            clear n1 n2 n3 n4 n5 n6 n7 n8' hgo e1 e2 e3 e4 e5 e6 e7 e8 e9 hS HSc hr hsz hnx hle htp hza j1 j2 j3 j4 j5 j6 j7
            go_wp2_with fail
            refine Calls.mono HTp.out ?_
            rintro r w6 ⟨rfl, b6⟩
            have H6 := Lib.hid b6
            clear b6
            go_wp2_with fail
            refine Calls.mono (HSn.out w6 H6.out) ?_
            rintro r w7 ⟨rfl, m7, g7, _⟩
            have H7 := Lib.hid (show ∃ d ys f, CyAt w7 w.heap.size H1 H2 C s1 g1 v1 s2 g2 v2 b t e d ∧ InvC l ws b t d ∧ (∀ a ∈ ys, a ∈ l) ∧ Chain ws d.T ys nx d.top ∧ d.T.length = m ∧ Ow zV 3 w7 D (.slice (some ⟨q, 0, none⟩) n n) (backZ qs) ∧ Below w.heap.size w w7 ∧ m + 1 ≤ nx + f ∧ ((goC f nx d).map fun d => (qs, d)) = R from
              ⟨z, _, f', m7, HNx.out.1, HNx.out.2.1, HNx.out.2.2.1, HNx.out.2.2.2.1, g7.ow (HE2.out.2.2.1.below H6.out) (fun k hk => by injection hk with hk; subst hk; exact HE2.out.2.2.2), (HE2.out.1.trans (H6.out.mono HE2.out.1.size)).trans (g7.below (Nat.le_trans HE2.out.1.size H6.out.size) HE2.out.2.1), HNx.out.2.2.2.2.1, HNx.out.2.2.2.2.2.1⟩)
            have hnm := HNx.out.2.2.2.2.2.2
            clear g7 m7
            go_wp2_with fail
            go_roundw
            case rel => first | exact ⟨nx, rfl, hnm, H7⟩ | ((repeat apply Exists.intro); refine ⟨?_, rfl⟩; exact ⟨nx, rfl, hnm, H7⟩)
            case measure => simp [Go.RowKit.intOf]; omega
        · have hta : at_ = tp := by omega
          have p1 : ¬ (at_ : Int) < (tp : Int) := by omega
          have hgo : goC f at_ d = some d := by
            cases f with
            | zero => rfl
            | succ f' => show (if at_ < d.top then _ else _) = _; rw [if_neg (by omega)]
          rw [hgo] at e9
          have HSp := Lib.hid (fun W (hb : Below wr.heap.size wr W) => cspace_c W (e1.below hb) (by have := HM8.out; omega))
          have HE2 := Lib.hid (And.intro e5 (And.intro e6 (And.intro e7 e9)))
          have HDw := HD.out.2
          have hdq := e6.ge
          clear hgo e1 e2 e3 e4 e5 e6 e7 e8 e9 hS hle htp hat htm
          subst hta
          go_wp2_with fail
          refine Calls.mono HTp.out ?_
          rintro r w6 ⟨rfl, b6⟩
          have H6 := Lib.hid b6
          clear b6
          go_wp2_with fail
          refine Calls.mono (HSp.out w6 H6.out) ?_
          rintro r w7 ⟨s', g', v', rfl, h7, b7⟩
          have H7 := Lib.hid (And.intro h7 b7)
          clear h7 b7
          go_wp2_with fail
          go_ret3
          rw [← HE2.out.2.2.2]
          have hb6 : Below w.heap.size w w6 := HE2.out.2.2.1.trans (H6.out.mono HE2.out.2.2.1.size)
          have hs7 : SpAt w7 w.heap.size s' g' v' d.T 0 d.top m := by
            have h := H7.out.1
            have hb := hb6.size
            rw [HE2.out.1] at h
            exact ⟨⟨h.mem.blk, Nat.le_trans hb h.mem.ge, h.mem.row.mono hb, h.mem.ne⟩, h.blk, h.sg, h.sv, Nat.le_trans hb h.hs, h.bt, h.te, h.el⟩
          exact ⟨s', g', v', q, rfl, hs7, HE2.out.1, ((HE2.out.2.1.below H6.out).below H7.out.2).mono HDw, hb6.trans (H7.out.2.mono hb6.size)⟩
end Go.Proofs.Ytbanbpphadgoiaa
/- Two objects side by side, bytes written into both: what the words say (pure). Conditions: lengths. -/
namespace Go.Proofs.Ytbanbpphadgoiaa
set_option linter.unusedVariables false
set_option linter.unusedSimpArgs false
open Go.RowKit
theorem hd_facts (P n room : Nat) (hP : P ≤ 64) (hn : n ≤ 1024) (hr : 1 + P + (n + 7) / 8 ≤ room) :
    goodX (packH P n false 0) room = true ∧ P0 (packH P n false 0) = P ∧ B0 (packH P n false 0) = n ∧ szX (packH P n false 0) = 1 + P + (n + 7) / 8 := by
  have hR : rightH (P : Int) (n : Int) false 0 = true := by
    unfold rightH
    rw [if_neg (by decide)]
    exact decide_eq_true ⟨rfl, by omega, by omega, by omega, by omega⟩
  obtain ⟨h1, h2, h3, h4⟩ := un_pack _ _ _ _ hR
  have hs : szX (packH P n false 0) = 1 + P + (n + 7) / 8 := by
    unfold szX
    rw [h1, h2, h3, h4]
    unfold sizeH
    rw [if_pos ⟨hR, rfl⟩]
    omega
  refine ⟨?_, ?_, ?_, hs⟩
  · unfold goodX
    rw [ok_pack _ _ _ _ hR, h3, hs]
    simp [hr]
  · unfold P0; rw [h1]; rfl
  · unfold B0; rw [h2]; rfl
theorem sizeH_two (P n : Nat) (hP : P ≤ 64) (hn : n ≤ 1024) : rightH (P : Int) (n : Int) false 0 = true ∧ sizeH (P : Int) (n : Int) false 0 = ((1 + P + (n + 7) / 8 : Nat) : Int) := by
  have hR : rightH (P : Int) (n : Int) false 0 = true := by
    unfold rightH
    rw [if_neg (by decide)]
    exact decide_eq_true ⟨rfl, by omega, by omega, by omega, by omega⟩
  refine ⟨hR, ?_⟩
  unfold sizeH
  rw [if_pos ⟨hR, rfl⟩]
  omega
theorem putK_far (ws : List (BitVec 64)) (a : Nat) (bs : List (BitVec 8)) (q : Nat) : ∀ k, (8 * q + 8 ≤ a ∨ a + k ≤ 8 * q) → (putK ws a bs k).getD q 0#64 = ws.getD q 0#64
  | 0, _ => rfl
  | k + 1, h => by
    show (setB _ _ _).getD q 0#64 = _
    rw [setB_far _ _ _ _ (by omega), putK_far ws a bs q k (by omega)]
theorem allocW_get (ws : List (BitVec 64)) (t m q : Nat) (x : BitVec 64) (hm : 1 ≤ m) (hl : t + m ≤ ws.length) : (allocW ws t m x).getD q 0#64 = if q = t then x else if t < q ∧ q < t + m then 0#64 else ws.getD q 0#64 := by
  unfold allocW
  rw [List.getD_eq_getElem?_getD, zeroW_get _ _ _ _ (by rw [List.length_set]; omega)]
  by_cases c : t + 1 ≤ q ∧ q < t + 1 + (m - 1)
  · rw [if_pos c, if_neg (by omega), if_pos (by omega)]; rfl
  · rw [if_neg c, List.getElem?_set]
    by_cases e : t = q
    · subst e
      rw [if_pos rfl, if_pos (by omega), if_pos rfl]; rfl
    · rw [if_neg e, if_neg (fun h => e h.symm), if_neg (by omega), ← List.getD_eq_getElem?_getD]
theorem byteAt_zero {ws : List (BitVec 64)} {i : Nat} (h : ws.getD (i / 8) 0#64 = 0#64) : byteAt ws i = 0#8 := by
  unfold byteAt
  rw [h]
  simp
/-- The words of two objects. -/
def twoW (P n k : Nat) : List (BitVec 64) := allocW (allocW (List.replicate 200 0#64) 0 (1 + P + (n + 7) / 8) (packH P n false 0)) (1 + P + (n + 7) / 8) (1 + 0 + (k + 7) / 8) (packH (0 : Nat) k false 0)
theorem twoW_len (P n k : Nat) : (twoW P n k).length = 200 := by unfold twoW; rw [allocW_len, allocW_len, List.length_replicate]
theorem rep_get (q : Nat) : (List.replicate 200 0#64).getD q 0#64 = 0#64 := by
  rw [List.getD_eq_getElem?_getD, List.getElem?_replicate]
  split <;> rfl
theorem twoW_get (P n k q : Nat) (hP : P ≤ 7) (hn : n ≤ 63) (hk : k ≤ 63) : (twoW P n k).getD q 0#64 = if q = 1 + P + (n + 7) / 8 then packH (0 : Nat) k false 0 else if q = 0 then packH P n false 0 else 0#64 := by
  unfold twoW
  rw [allocW_get _ _ _ _ _ (by omega) (by rw [allocW_len, List.length_replicate]; omega)]
  by_cases e : q = 1 + P + (n + 7) / 8
  · rw [if_pos e, if_pos e]
  · rw [if_neg e, if_neg e]
    by_cases c : 1 + P + (n + 7) / 8 < q ∧ q < 1 + P + (n + 7) / 8 + (1 + 0 + (k + 7) / 8)
    · rw [if_pos c, if_neg (by omega)]
    · rw [if_neg c, allocW_get _ _ _ _ _ (by omega) (by rw [List.length_replicate]; omega), rep_get]
      by_cases z : q = 0
      · rw [if_pos z, if_pos z]
      · rw [if_neg z, if_neg z]
        split <;> rfl
section
variable (P n k : Nat) (x y : List (BitVec 8))
def apA : List (BitVec 64) := putK (twoW P n k) (8 * (1 + P + (n + 7) / 8 + 1 + 0) + 0) y y.length
def apB : List (BitVec 64) := putK (apA P n k y) (8 * (0 + 1 + P) + (n - x.length)) x x.length
theorem apA_len : (apA P n k y).length = 200 := by unfold apA; rw [putK_len, twoW_len]
theorem apB_len : (apB P n k x y).length = 200 := by unfold apB; rw [putK_len, apA_len]
variable (hP : P ≤ 7) (hn : n ≤ 63) (hk : k ≤ 63) (hx : x.length ≤ n) (hy : y.length ≤ k)
include hP hn hk
theorem twoW_h : (twoW P n k).getD 0 0#64 = packH P n false 0 ∧ (twoW P n k).getD (1 + P + (n + 7) / 8) 0#64 = packH (0 : Nat) k false 0 := by
  constructor
  · rw [twoW_get P n k 0 hP hn hk, if_neg (by omega), if_pos rfl]
  · rw [twoW_get P n k _ hP hn hk, if_pos rfl]
theorem apA_h : (apA P n k y).getD 0 0#64 = packH P n false 0 ∧ (apA P n k y).getD (1 + P + (n + 7) / 8) 0#64 = packH (0 : Nat) k false 0 := by
  obtain ⟨h1, h2⟩ := twoW_h P n k hP hn hk
  unfold apA
  rw [putK_far _ _ _ _ _ (by omega), putK_far _ _ _ _ _ (by omega)]
  exact ⟨h1, h2⟩
include hx
theorem apB_h : (apB P n k x y).getD 0 0#64 = packH P n false 0 ∧ (apB P n k x y).getD (1 + P + (n + 7) / 8) 0#64 = packH (0 : Nat) k false 0 := by
  obtain ⟨h1, h2⟩ := apA_h P n k y hP hn hk
  unfold apB
  rw [putK_far _ _ _ _ _ (by omega), putK_far _ _ _ _ _ (by omega)]
  exact ⟨h1, h2⟩
include hy
theorem apB_ptr (q : Nat) (hq : q < P) : (apB P n k x y).getD (0 + 1 + q) 0#64 = 0#64 := by
  unfold apB apA
  rw [putK_far _ _ _ _ _ (by omega), putK_far _ _ _ _ _ (by omega), twoW_get P n k _ hP hn hk, if_neg (by omega), if_neg (by omega)]
theorem apB_byte (i : Nat) (h1 : i / 8 ≠ 0) (h2 : i / 8 ≠ 1 + P + (n + 7) / 8) : byteAt (apB P n k x y) i = if 8 * (0 + 1 + P) + (n - x.length) ≤ i ∧ i < 8 * (0 + 1 + P) + (n - x.length) + x.length then x.getD (i - (8 * (0 + 1 + P) + (n - x.length))) 0#8 else if 8 * (1 + P + (n + 7) / 8 + 1 + 0) + 0 ≤ i ∧ i < 8 * (1 + P + (n + 7) / 8 + 1 + 0) + 0 + y.length then y.getD (i - (8 * (1 + P + (n + 7) / 8 + 1 + 0) + 0)) 0#8 else 0#8 := by
  unfold apB
  rw [byteAt_putK _ _ _ _ _ (by rw [apA_len]; omega)]
  unfold apA
  rw [byteAt_putK _ _ _ _ _ (by rw [twoW_len]; omega)]
  rw [byteAt_zero (by rw [twoW_get P n k _ hP hn hk, if_neg h2, if_neg h1])]
theorem apB_x : bytesM (apB P n k x y) (8 * (0 + 1 + P) + (n - x.length)) x.length = x := by
  apply List.ext_getElem
  · simp [bytesM]
  · intro j h1 h2
    have e : (bytesM (apB P n k x y) (8 * (0 + 1 + P) + (n - x.length)) x.length)[j] = byteAt (apB P n k x y) (8 * (0 + 1 + P) + (n - x.length) + j) := by simp [bytesM]
    rw [e, apB_byte P n k x y hP hn hk hx hy _ (by omega) (by omega), if_pos (by omega), show 8 * (0 + 1 + P) + (n - x.length) + j - (8 * (0 + 1 + P) + (n - x.length)) = j from by omega]
    simp [List.getD, h2]
theorem apB_y : bytesM (apB P n k x y) (8 * (1 + P + (n + 7) / 8 + 1 + 0) + 0) y.length = y := by
  apply List.ext_getElem
  · simp [bytesM]
  · intro j h1 h2
    have e : (bytesM (apB P n k x y) (8 * (1 + P + (n + 7) / 8 + 1 + 0) + 0) y.length)[j] = byteAt (apB P n k x y) (8 * (1 + P + (n + 7) / 8 + 1 + 0) + 0 + j) := by simp [bytesM]
    rw [e, apB_byte P n k x y hP hn hk hx hy _ (by omega) (by omega), if_neg (by omega), if_pos (by omega), show 8 * (1 + P + (n + 7) / 8 + 1 + 0) + 0 + j - (8 * (1 + P + (n + 7) / 8 + 1 + 0) + 0) = j from by omega]
    simp [List.getD, h2]
theorem apB_well : wellE (apB P n k x y) 0 (1 + P + (n + 7) / 8 + (1 + 0 + (k + 7) / 8)) = 0 := by
  obtain ⟨h1, h2⟩ := apB_h P n k x y hP hn hk hx
  obtain ⟨T, hT⟩ : ∃ T, T = 1 + P + (n + 7) / 8 + (1 + 0 + (k + 7) / 8) := ⟨_, rfl⟩
  obtain ⟨U, hU⟩ : ∃ U, U = T - 2 := ⟨_, rfl⟩
  obtain ⟨a1, a2, a3, a4⟩ := hd_facts P n (T - 0) (by omega) (by omega) (by omega)
  obtain ⟨b1, b2, b3, b4⟩ := hd_facts 0 k (T - (1 + P + (n + 7) / 8)) (by omega) (by omega) (by omega)
  have ho : objF (apB P n k x y) T (T + 1) 0 = some [0, 1 + P + (n + 7) / 8] := by
    rw [show T + 1 = U + 1 + 1 + 1 from by omega]
    unfold objF
    rw [if_pos (by omega), h1, if_pos a1, a4]
    unfold objF
    rw [show 0 + (1 + P + (n + 7) / 8) = 1 + P + (n + 7) / 8 from by omega, if_pos (by omega), h2, if_pos b1, b4]
    unfold objF
    rw [if_neg (by omega)]
    rfl
  rw [← hT, well_some ho]
  refine if_pos ?_
  simp only [List.all_cons, List.all_nil, Bool.and_true, Bool.and_eq_true]
  constructor
  · unfold wellN
    rw [Bool.and_eq_true]
    constructor
    · rw [h1, a2, List.all_eq_true]
      intro q hq
      have hq := List.mem_range.1 hq
      unfold ptrN
      rw [apB_ptr P n k x y hP hn hk hx hy q hq]
      exact decide_eq_true (.inl rfl)
    · unfold padN padB
      rw [h1, a2, a3, a4, List.all_eq_true]
      intro z hz
      unfold bytesM at hz
      obtain ⟨i, hi, rfl⟩ := List.mem_map.1 hz
      have hi := List.mem_range.1 hi
      rw [apB_byte P n k x y hP hn hk hx hy _ (by omega) (by omega), if_neg (by omega), if_neg (by omega)]
      rfl
  · unfold wellN
    rw [Bool.and_eq_true]
    constructor
    · rw [h2, b2]; rfl
    · unfold padN padB
      rw [h2, b2, b3, b4, List.all_eq_true]
      intro z hz
      unfold bytesM at hz
      obtain ⟨i, hi, rfl⟩ := List.mem_map.1 hz
      have hi := List.mem_range.1 hi
      rw [apB_byte P n k x y hP hn hk hx hy _ (by omega) (by omega), if_neg (by omega), if_neg (by omega)]
      rfl
end
end Go.Proofs.Ytbanbpphadgoiaa
/- Objects without pointers, copied (pure). Conditions: room. -/
namespace Go.Proofs.Ytbanbpphadgoiaa
set_option linter.unusedVariables false
set_option linter.unusedSimpArgs false
open Go.RowKit Go.Maps
def sumZ (ws : List (BitVec 64)) : List Nat → Nat
  | [] => 0
  | a :: r => szX (ws.getD a 0#64) + sumZ ws r
/-- Where objects come to stand. -/
def posL (ws : List (BitVec 64)) : List Nat → Nat → List Nat
  | [], _ => []
  | a :: r, p => p :: posL ws r (p + szX (ws.getD a 0#64))
section
variable {ws T : List (BitVec 64)} {l : List Nat} {b t : Nat}
theorem posL_len : ∀ (r : List Nat) (p : Nat), (posL ws r p).length = r.length
  | [], _ => rfl
  | _ :: r, p => by unfold posL; rw [List.length_cons, List.length_cons, posL_len r]
theorem chain_at : ∀ (r : List Nat) (p q j : Nat) (hj : j < r.length), Chain ws T r p q → ∃ x, (posL ws r p)[j]? = some x ∧ p ≤ x ∧ x + szX (ws.getD r[j] 0#64) ≤ q ∧ ∀ i, i < szX (ws.getD r[j] 0#64) → T.getD (x + i) 0#64 = ws.getD (r[j] + i) 0#64
  | [], _, _, j, hj, _ => absurd hj (by simp)
  | a :: r, p, q, 0, _, h => ⟨p, rfl, Nat.le_refl _, by have := h.2.le; simpa using this, h.1⟩
  | a :: r, p, q, j + 1, hj, h => by
    obtain ⟨x, h1, h2, h3, h4⟩ := chain_at r _ q j (by simpa using hj) h.2
    exact ⟨x, by unfold posL; simpa using h1, by omega, by simpa using h3, by simpa using h4⟩
/-- Objects that were not taken yet are taken, one by one. -/
theorem roots_fresh (H : Heap ws l b t) : ∀ (r : List Nat) (c : Cy), InvC l ws b t c → (∀ a ∈ r, a ∈ l ∧ fM (c.F.getD a 0#64) = false) → r.Nodup → c.top + sumZ ws r ≤ c.T.length →
    ∃ d, rootsC (r.map (· + 1)) c = some ((posL ws r c.top).map (· + 1), d) ∧ InvC l ws b t d ∧ d.top = c.top + sumZ ws r ∧ d.T.length = c.T.length ∧ (∀ i, i < c.top → d.T.getD i 0#64 = c.T.getD i 0#64) ∧ Chain ws d.T r c.top d.top
  | [], c, h, _, _, _ => ⟨c, rfl, h, rfl, rfl, fun _ _ => rfl, rfl⟩
  | a :: r, c, h, hr, hn, hs => by
    obtain ⟨ha, hm⟩ := hr a (.head _)
    have hx := h.2.2.2.2 a ha hm
    have hsum : sumZ ws (a :: r) = szX (ws.getD a 0#64) + sumZ ws r := rfl
    have htk : takeC c a = some (c.top, movC c a) := by
      unfold takeC
      rw [hm, if_neg (by simp), if_pos (by rw [hx]; omega)]
    obtain ⟨i1, i2⟩ := takeC_inv H h ha htk
    obtain ⟨_, _, _, k4, k5, k6, k7⟩ := takeC_ok h.1 h.2.1 ha htk
    rcases i2 with ⟨_, e⟩ | ⟨_, _, _, e4, e5⟩
    · rw [hm] at e; cases e
    · have hFs : (movC c a).F = c.F.set a (goneW c.top) := rfl
      have hal : a < c.F.length := by have := H.tl; have := (H.good a ha).2.1; rw [h.2.2.1]; omega
      obtain ⟨d, d1, d2, d3, d4, d5, d6⟩ := roots_fresh H r (movC c a) i1 (fun x hx2 => by
        obtain ⟨j1, j2⟩ := hr x (.tail _ hx2)
        refine ⟨j1, ?_⟩
        rw [hFs, getD_set hal, if_neg (fun e => (List.nodup_cons.1 hn).1 (by rw [e]; exact hx2))]
        exact j2) (List.nodup_cons.1 hn).2 (by rw [e4, k5]; omega)
      refine ⟨d, ?_, d2, by rw [d3, e4]; omega, d4.trans k5, fun i hi => by rw [d5 i (by omega)]; exact k7 i hi, ?_, ?_⟩
      · show (match takeP c (a + 1) with | none => none | some (q, d) => match rootsC (r.map (· + 1)) d with | none => none | some (qs, e) => some (q :: qs, e)) = _
        have : takeP c (a + 1) = some (c.top + 1, movC c a) := by
          show (takeC c a).map _ = _
          rw [htk]; rfl
        rw [this]
        simp only
        rw [d1]
        simp only
        rw [show (posL ws (a :: r) c.top) = c.top :: posL ws r (c.top + szX (ws.getD a 0#64)) from rfl, e4]
        rfl
      · intro i hi
        rw [d5 _ (by omega)]
        exact e5 i hi
      · rw [← e4]; exact d6
/-- Objects without pointers are scanned: nothing turns. -/
theorem go_plain (H : Heap ws l b t) : ∀ (r : List Nat) (p f : Nat) (c : Cy), (∀ a ∈ r, a ∈ l ∧ P0 (ws.getD a 0#64) = 0) → Chain ws c.T r p c.top → goC f p c = some c
  | _, _, 0, _, _, _ => rfl
  | [], p, f + 1, c, _, h => by
    have h : p = c.top := h
    show (if p < c.top then _ else some c) = _
    rw [if_neg (by omega)]
  | a :: r, p, f + 1, c, hr, h => by
    obtain ⟨ha, hp⟩ := hr a (.head _)
    have hn := size_pos (H.good a ha).2.2
    have hle := h.2.le
    have hx := h.1 0 (by omega)
    rw [Nat.add_zero, Nat.add_zero] at hx
    show (if p < c.top then (match scanC p (P0 (c.T.getD p 0#64)) 0 c with | none => none | some d => goC f (p + szX (d.T.getD p 0#64)) d) else some c) = _
    rw [if_pos (by omega), hx, hp]
    show goC f (p + szX (c.T.getD p 0#64)) c = _
    rw [hx]
    exact go_plain H r _ f c (fun x hx => hr x (.tail _ hx)) h.2
theorem copy_plain (H : Heap ws l b t) (m : Nat) (hm : m ≤ 8192) (r : List Nat) (hr : ∀ a ∈ r, a ∈ l ∧ P0 (ws.getD a 0#64) = 0) (hn : r.Nodup) (hs : sumZ ws r ≤ m) :
    ∃ d, copyC ws m (r.map (· + 1)) = some ((posL ws r 0).map (· + 1), d) ∧ d.top = sumZ ws r ∧ d.T.length = m ∧ Chain ws d.T r 0 d.top := by
  obtain ⟨d, d1, d2, d3, d4, d5, d6⟩ := roots_fresh H r ⟨ws, List.replicate m 0#64, 0⟩ (inv_start H hm) (fun a ha => ⟨(hr a ha).1, (goodX_out (H.good a (hr a ha).1).2.2).2.1⟩) hn (by simp; omega)
  refine ⟨d, ?_, by rw [d3]; simp, by rw [d4]; simp, d6⟩
  unfold copyC
  rw [d1]
  simp only
  rw [go_plain H r 0 (m + 1) d hr d6]
  rfl
theorem bytes_same {A B : List (BitVec 64)} {x y n : Nat} (h : ∀ i, i < (n + 7) / 8 → A.getD (x + i) 0#64 = B.getD (y + i) 0#64) : bytesM A (8 * x) n = bytesM B (8 * y) n := by
  unfold bytesM
  refine List.map_congr_left fun i hi => ?_
  have hi := List.mem_range.1 hi
  unfold byteAt
  rw [show (8 * x + i) / 8 = x + i / 8 from by omega, show (8 * y + i) / 8 = y + i / 8 from by omega, h (i / 8) (by omega), show (8 * x + i) % 8 = (8 * y + i) % 8 from by omega]
end
end Go.Proofs.Ytbanbpphadgoiaa
/- Copying step by step, in words; that there is always room; how many steps there are (pure). Conditions: room for all objects. -/
namespace Go.Proofs.Ytbanbpphadgoiaa
set_option linter.unusedVariables false
set_option linter.unusedSimpArgs false
open Go.RowKit Go.Maps
section
variable {ws T T' : List (BitVec 64)} {l : List Nat} {b t : Nat} {c d : Cy}
theorem sum_app (x y : List Nat) : sumZ ws (x ++ y) = sumZ ws x + sumZ ws y := by
  induction x with
  | nil => show _ = 0 + _; rw [Nat.zero_add]; rfl
  | cons a x ih => show szX _ + sumZ ws (x ++ y) = szX _ + sumZ ws x + _; rw [ih]; omega
theorem sum_sub : ∀ (x y : List Nat), x.Nodup → (∀ a ∈ x, a ∈ y) → sumZ ws x ≤ sumZ ws y
  | [], _, _, _ => Nat.zero_le _
  | a :: x, y, hn, hs => by
    obtain ⟨y1, y2, rfl⟩ := List.append_of_mem (hs a (.head _))
    obtain ⟨n1, n2⟩ := List.nodup_cons.1 hn
    have ih := sum_sub x (y1 ++ y2) n2 (fun z hz => by
      have := hs z (.tail _ hz)
      rcases List.mem_append.1 this with h | h
      · exact List.mem_append.2 (.inl h)
      · rcases List.mem_cons.1 h with h | h
        · exact absurd (h ▸ hz) n1
        · exact List.mem_append.2 (.inr h))
    rw [sum_app] at ih ⊢
    show szX _ + sumZ ws x ≤ sumZ ws y1 + (szX _ + sumZ ws y2)
    omega
theorem sum_obj {top : Nat} : ∀ (n a : Nat) (l : List Nat), a ≤ top → objF ws top n a = some l → a + sumZ ws l ≤ top
  | 0, a, l, ha, h => by injection h with h; subst h; exact ha
  | n + 1, a, l, ha, h => by
    have e : objF ws top (n + 1) a = if a < top then (if goodX (ws.getD a 0#64) (top - a) = true then (objF ws top n (a + szX (ws.getD a 0#64))).map (a :: ·) else none) else some [] := rfl
    rw [e] at h
    by_cases c : a < top
    · rw [if_pos c] at h
      by_cases d : goodX (ws.getD a 0#64) (top - a) = true
      · rw [if_pos d] at h
        have hs := (goodX_out d).2.2
        cases hr : objF ws top n (a + szX (ws.getD a 0#64)) with
        | none => rw [hr] at h; cases h
        | some r =>
          rw [hr] at h
          injection h with h
          subst h
          have := sum_obj n _ r (by omega) hr
          show a + (szX _ + sumZ ws r) ≤ top
          omega
      · rw [if_neg d] at h; cases h
    · rw [if_neg c] at h
      injection h with h
      subst h
      exact ha
/-- The objects that were taken, in their order. -/
def CntI (l : List Nat) (ws : List (BitVec 64)) (c : Cy) (all : List Nat) : Prop := sumZ ws all = c.top ∧ all.Nodup ∧ (∀ a ∈ all, a ∈ l) ∧ ∀ a ∈ l, (fM (c.F.getD a 0#64) = true ↔ a ∈ all)
/-- Headers of objects, one behind the other. -/
def Heads (ws T : List (BitVec 64)) : List Nat → Nat → Nat → Prop
  | [], p, q => p = q
  | a :: r, p, q => T.getD p 0#64 = ws.getD a 0#64 ∧ Heads ws T r (p + szX (ws.getD a 0#64)) q
theorem Heads.sum : ∀ {r : List Nat} {p q : Nat}, Heads ws T r p q → p + sumZ ws r = q
  | [], _, _, h => h
  | a :: r, p, q, h => by have := Heads.sum (r := r) h.2; show p + (szX _ + sumZ ws r) = q; omega
theorem Heads.snoc : ∀ {r : List Nat} {p q a : Nat}, Heads ws T r p q → T.getD q 0#64 = ws.getD a 0#64 → Heads ws T (r ++ [a]) p (q + szX (ws.getD a 0#64))
  | [], p, q, a, h, k => by have h : p = q := h; subst h; exact ⟨k, rfl⟩
  | x :: r, p, q, a, h, k => ⟨h.1, Heads.snoc (r := r) h.2 k⟩
theorem Heads.same (hz : ∀ a ∈ l, 1 ≤ szX (ws.getD a 0#64)) : ∀ {r : List Nat} {p q : Nat}, (∀ a ∈ r, a ∈ l) → Heads ws T r p q → (∀ i, p ≤ i → i < q → T'.getD i 0#64 = T.getD i 0#64) → Heads ws T' r p q
  | [], _, _, _, h, _ => h
  | x :: r, p, q, hr, h, k => by
    have h2 := Heads.sum (r := r) h.2
    have := hz x (hr x (.head _))
    exact ⟨by rw [k p (Nat.le_refl _) (by omega)]; exact h.1, Heads.same (r := r) hz (fun a ha => hr a (.tail _ ha)) h.2 (fun i h1 h3 => k i (by omega) h3)⟩
theorem takeC_all (H : Heap ws l b t) (h : InvC l ws b t c) {all : List Nat} (hc : CntI l ws c all) (hcap : sumZ ws l ≤ c.T.length) {a : Nat} (ha : a ∈ l) :
    ∃ u d, takeC c a = some (u, d) ∧ InvC l ws b t d ∧ ∃ ext, CntI l ws d (all ++ ext) ∧ (∀ p0 ys, Chain ws c.T ys p0 c.top → Chain ws d.T (ys ++ ext) p0 d.top) := by
  obtain ⟨c1, c2, c3, c4⟩ := hc
  by_cases hm : fM (c.F.getD a 0#64) = true
  · have e : takeC c a = some ((fT (c.F.getD a 0#64)).toNat, c) := by unfold takeC; rw [if_pos hm]
    exact ⟨_, _, e, h, [], by rw [List.append_nil]; exact ⟨c1, c2, c3, c4⟩, fun p0 ys k => by rw [List.append_nil]; exact k⟩
  · have hm2 : fM (c.F.getD a 0#64) = false := by simpa using hm
    have hx := h.2.2.2.2 a ha hm2
    have hna : a ∉ all := fun hin => hm ((c4 a ha).2 hin)
    have hle := sum_sub (ws := ws) (a :: all) l (List.nodup_cons.2 ⟨hna, c2⟩) (fun z hz => (List.mem_cons.1 hz).elim (fun e => e ▸ ha) (c3 z))
    have hle : szX (ws.getD a 0#64) + sumZ ws all ≤ sumZ ws l := hle
    have e : takeC c a = some (c.top, movC c a) := by
      unfold takeC
      rw [if_neg hm, if_pos (by rw [hx]; omega)]
    obtain ⟨i1, i2⟩ := takeC_inv H h ha e
    obtain ⟨_, _, _, k4, k5, k6, k7⟩ := takeC_ok h.1 h.2.1 ha e
    rcases i2 with ⟨_, e2⟩ | ⟨_, _, _, e4, e5⟩
    · rw [hm2] at e2; cases e2
    · have hal : a < c.F.length := by have := H.tl; have := (H.good a ha).2.1; rw [h.2.2.1]; omega
      have hFs : (movC c a).F = c.F.set a (goneW c.top) := rfl
      obtain ⟨_, g2, _⟩ := gone_ok (u := c.top) (by have := i1.2.1.2.1; have := i1.2.1.2.2; have := h.2.1.2.1; have := h.2.1.2.2; have := size_pos (H.good a ha).2.2; omega)
      refine ⟨_, _, e, i1, [a], ⟨?_, ?_, ?_, ?_⟩, ?_⟩
      · rw [sum_app]
        show _ + (szX _ + 0) = _
        rw [e4]; omega
      · exact List.nodup_append.2 ⟨c2, by simp, fun x hx y hy => by rw [List.mem_singleton.1 hy]; exact fun e3 => hna (e3 ▸ hx)⟩
      · intro x hx2
        rcases List.mem_append.1 hx2 with h2 | h2
        · exact c3 x h2
        · rw [List.mem_singleton.1 h2]; exact ha
      · intro x hxl
        rw [hFs, getD_set hal]
        by_cases e3 : a = x
        · rw [if_pos e3, g2]
          exact ⟨fun _ => by rw [← e3]; simp, fun _ => rfl⟩
        · rw [if_neg e3, c4 x hxl]
          simp
          exact fun h2 => absurd h2.symm e3
      · intro p0 ys k
        rw [e4]
        exact (k.same (fun i _ h2 => k7 i h2)).snoc e5
theorem takeP_all (H : Heap ws l b t) (h : InvC l ws b t c) {all : List Nat} (hc : CntI l ws c all) (hcap : sumZ ws l ≤ c.T.length) {k : Nat} (hk : k = 0 ∨ (1 ≤ k ∧ k - 1 ∈ l)) :
    ∃ q d, takeP c k = some (q, d) ∧ InvC l ws b t d ∧ ∃ ext, CntI l ws d (all ++ ext) ∧ (∀ p0 ys, Chain ws c.T ys p0 c.top → Chain ws d.T (ys ++ ext) p0 d.top) := by
  cases k with
  | zero => exact ⟨0, c, rfl, h, [], by rw [List.append_nil]; exact hc, fun p0 ys k => by rw [List.append_nil]; exact k⟩
  | succ a =>
    have ha : a ∈ l := by
      rcases hk with hk | ⟨_, hk⟩
      · cases hk
      · simpa using hk
    obtain ⟨u, d, e, r⟩ := takeC_all H h hc hcap ha
    refine ⟨u + 1, d, ?_, r⟩
    show (takeC c a).map _ = _
    rw [e]; rfl
theorem scanC_all (H : Heap ws l b t) {at_ P p1 : Nat} : ∀ (n i : Nat) (c : Cy) (all ys : List Nat), n + i = P → InvC l ws b t c → CntI l ws c all → sumZ ws l ≤ c.T.length → at_ + 1 + P ≤ p1 → p1 ≤ c.top → PtL l c at_ P i → Chain ws c.T ys p1 c.top →
    ∃ d, scanC at_ n i c = some d ∧ InvC l ws b t d ∧ (∃ ext, CntI l ws d (all ++ ext) ∧ Chain ws d.T (ys ++ ext) p1 d.top) ∧ c.top ≤ d.top ∧ d.T.length = c.T.length ∧ d.F.length = c.F.length ∧ (∀ j, j < c.top → ¬ (at_ + 1 + i ≤ j ∧ j < at_ + 1 + P) → d.T.getD j 0#64 = c.T.getD j 0#64)
  | 0, i, c, all, ys, _, h, hc, _, _, _, _, hch => ⟨c, rfl, h, ⟨[], by rw [List.append_nil]; exact hc, by rw [List.append_nil]; exact hch⟩, Nat.le_refl _, rfl, rfl, fun _ _ _ => rfl⟩
  | n + 1, i, c, all, ys, hn, h, hc, hcap, hp1, hpt, hp, hch => by
    have hi : i < P := by omega
    obtain ⟨q, z, hr, k1, ext, k2, k3⟩ := takeP_all H h hc hcap (hp i (Nat.le_refl _) hi)
    obtain ⟨j1, j2, j3, j4, j5, j6, j7, j8, j9⟩ := scan_step h.1 h.2.1 hi (by omega) hp hr
    have hin : at_ + 1 + i < z.T.length := by have := h.2.1.2.2; omega
    have hset : Chain ws (setC z (at_ + 1 + i) q).T (ys ++ ext) p1 (setC z (at_ + 1 + i) q).top := by
      refine (k3 _ _ hch).same (fun j h1 _ => ?_)
      unfold setC
      rw [getD_set hin, if_neg (by omega)]
    obtain ⟨d, m0, m1, ⟨ext2, m2, m3⟩, m4, m5, m6, m7⟩ := scanC_all H n (i + 1) (setC z (at_ + 1 + i) q) (all ++ ext) (ys ++ ext) (by omega) ⟨j1, j2, k1.2.2.1, k1.2.2.2.1, k1.2.2.2.2⟩ k2 (by show _ ≤ (z.T.set _ _).length; rw [List.length_set, j6]; exact hcap) hp1 (show p1 ≤ z.top by omega) j3 hset
    refine ⟨d, ?_, m1, ⟨ext ++ ext2, by rw [← List.append_assoc]; exact m2, by rw [← List.append_assoc]; exact m3⟩, ?_, ?_, ?_, fun j hj hne => ?_⟩
    · show (match takeP c (c.T.getD (at_ + 1 + i) 0#64).toNat with | none => none | some (p, z) => scanC at_ n (i + 1) (setC z (at_ + 1 + i) p)) = _
      rw [hr]
      exact m0
    · have : (setC z (at_ + 1 + i) q).top = z.top := rfl
      omega
    · rw [m5]; show ((z.T.set _ _).length) = _; rw [List.length_set, j6]
    · rw [m6]; show z.F.length = _; rw [j7]
    · rw [m7 j (show j < z.top by omega) (by omega)]
      exact j9 j hj (by omega)
end
/-- A collector: its words, the roots' new places, the next object to scan. -/
structure Sc where
  c : Cy
  qs : List Nat
  sc : Nat
def doneS (ps : List Nat) (s : Sc) : Bool := decide (s.qs.length = ps.length ∧ s.sc = s.c.top)
def onceS (ps : List Nat) (s : Sc) : Option Sc :=
  if s.qs.length < ps.length then (takeP s.c (ps.getD s.qs.length 0)).map fun r => ⟨r.2, s.qs ++ [r.1], s.sc⟩
  else (scanC s.sc (P0 (s.c.T.getD s.sc 0#64)) 0 s.c).map fun d => ⟨d, s.qs, s.sc + szX (s.c.T.getD s.sc 0#64)⟩
def nextS (ps : List Nat) (s : Sc) : Sc := if doneS ps s = true then s else (onceS ps s).getD s
def runS (ps : List Nat) : Nat → Sc → Sc
  | 0, s => s
  | n + 1, s => runS ps n (nextS ps s)
theorem run_add (ps : List Nat) : ∀ (n m : Nat) (s : Sc), runS ps (n + m) s = runS ps m (runS ps n s)
  | 0, m, s => by rw [Nat.zero_add]; rfl
  | n + 1, m, s => by rw [show n + 1 + m = (n + m) + 1 from by omega]; exact run_add ps n m _
theorem run_succ (ps : List Nat) (n : Nat) (s : Sc) : runS ps (n + 1) s = nextS ps (runS ps n s) := by rw [run_add]; rfl
theorem run_done {ps : List Nat} {s : Sc} (h : doneS ps s = true) : ∀ n, runS ps n s = s
  | 0 => rfl
  | n + 1 => by show runS ps n (nextS ps s) = s; unfold nextS; rw [if_pos h]; exact run_done h n
section
variable {ws : List (BitVec 64)} {l : List Nat} {b t m : Nat} {ps : List Nat}
/-- n steps were done, of which so many were scans. -/
structure StI (ws : List (BitVec 64)) (l : List Nat) (b t m : Nat) (ps : List Nat) (s : Sc) (z : Nat) : Prop where
  inv : InvC l ws b t s.c
  len : s.c.T.length = m
  qs : s.qs.length ≤ ps.length
  ord : ∃ zs ys, zs.length = z ∧ CntI l ws s.c (zs ++ ys) ∧ Heads ws s.c.T zs 0 s.sc ∧ Chain ws s.c.T ys s.sc s.c.top
theorem StI.le {s : Sc} {z : Nat} (h : StI ws l b t m ps s z) : s.sc ≤ s.c.top ∧ s.c.top ≤ m := by
  obtain ⟨zs, ys, _, _, _, h2⟩ := h.ord
  exact ⟨h2.le, by have := h.inv.2.1.2.2; rw [h.len] at this; exact this⟩
theorem st_start (H : Heap ws l b t) (hm : m ≤ 8192) : StI ws l b t m ps ⟨⟨ws, List.replicate m 0#64, 0⟩, [], 0⟩ 0 :=
  ⟨inv_start H hm, by simp, Nat.zero_le _, [], [], rfl, ⟨rfl, List.nodup_nil, fun _ h => (by cases h), fun a ha => by
    have : fM (ws.getD a 0#64) = false := (goodX_out (H.good a ha).2.2).2.1
    show (fM (ws.getD a 0#64) = true ↔ _)
    rw [this]; simp⟩, rfl, rfl⟩
def measS (m : Nat) (ps : List Nat) (s : Sc) : Nat := (ps.length - s.qs.length) + (m - s.sc)
theorem once_ok (H : Heap ws l b t) (hps : ∀ p ∈ ps, p = 0 ∨ (1 ≤ p ∧ p - 1 ∈ l)) (hcap : sumZ ws l ≤ m) {s : Sc} {z : Nat} (h : StI ws l b t m ps s z) (hd : doneS ps s = false) :
    ∃ s', onceS ps s = some s' ∧ measS m ps s' < measS m ps s ∧ ((s.qs.length < ps.length ∧ s'.qs.length = s.qs.length + 1 ∧ StI ws l b t m ps s' z) ∨ (¬ s.qs.length < ps.length ∧ s'.qs = s.qs ∧ StI ws l b t m ps s' (z + 1))) := by
  obtain ⟨zs, ys, hz, hcn, hhd, hch⟩ := h.ord
  have hsz : ∀ a ∈ l, 1 ≤ szX (ws.getD a 0#64) := fun a ha => size_pos (H.good a ha).2.2
  have hle := h.le
  by_cases hq : s.qs.length < ps.length
  · have hp := hps (ps.getD s.qs.length 0) (by rw [List.getD_eq_getElem?_getD, List.getElem?_eq_getElem hq]; exact List.getElem_mem _)
    obtain ⟨q, d, hr, k1, ext, k2, k3⟩ := takeP_all H h.inv hcn (by rw [h.len]; exact hcap) hp
    obtain ⟨_, _, _, _, j5, j6, j7, _⟩ := takeP_ok h.inv.1 h.inv.2.1 hp hr
    refine ⟨⟨d, s.qs ++ [q], s.sc⟩, ?_, ?_, .inl ⟨hq, by simp, ?_⟩⟩
    · unfold onceS
      rw [if_pos hq, hr]; rfl
    · show (ps.length - (s.qs ++ [q]).length) + (m - s.sc) < (ps.length - s.qs.length) + (m - s.sc)
      simp; omega
    · refine ⟨k1, j5.trans h.len, by simp; omega, zs, ys ++ ext, hz, by rw [← List.append_assoc]; exact k2, ?_, k3 _ _ hch⟩
      exact hhd.same hsz (fun a ha => hcn.2.2.1 a (List.mem_append.2 (.inl ha))) (fun i _ h2 => j7 i (Nat.lt_of_lt_of_le (show i < s.sc from h2) hle.1))
  · have hne : s.sc < s.c.top := by
      have h1 : ¬ (s.qs.length = ps.length ∧ s.sc = s.c.top) := by unfold doneS at hd; simpa using hd
      have := h.qs
      omega
    obtain ⟨a, ys2, rfl, n1, n2, n3, n4, n5, n6, n7, n8⟩ := next_obj H h.inv hch (fun a ha => hcn.2.2.1 a (List.mem_append.2 (.inr ha))) hne
    obtain ⟨d, m0, m1, ⟨ext, m2, m3⟩, m4, m5, m6, m7⟩ := scanC_all H (P0 (s.c.T.getD s.sc 0#64)) 0 s.c (zs ++ a :: ys2) ys2 (by omega) h.inv hcn (by rw [h.len]; exact hcap) n5 n6 n4 n7
    have hx : d.T.getD s.sc 0#64 = ws.getD a 0#64 := by rw [m7 s.sc hne (by omega)]; exact n2
    refine ⟨⟨d, s.qs, s.sc + szX (s.c.T.getD s.sc 0#64)⟩, ?_, ?_, .inr ⟨hq, rfl, ?_⟩⟩
    · unfold onceS
      rw [if_neg hq, m0]; rfl
    · show (ps.length - s.qs.length) + (m - (s.sc + szX (s.c.T.getD s.sc 0#64))) < (ps.length - s.qs.length) + (m - s.sc)
      omega
    · refine ⟨m1, m5.trans h.len, h.qs, zs ++ [a], ys2 ++ ext, by simp [hz], by simpa using m2, ?_, m3⟩
      show Heads ws d.T (zs ++ [a]) 0 (s.sc + szX (s.c.T.getD s.sc 0#64))
      rw [n2]
      exact (hhd.same hsz (fun x hx2 => hcn.2.2.1 x (List.mem_append.2 (.inl hx2))) (fun i _ h2 => m7 i (by have : i < s.sc := h2; omega) (by have : i < s.sc := h2; omega))).snoc hx
theorem next_ok (H : Heap ws l b t) (hps : ∀ p ∈ ps, p = 0 ∨ (1 ≤ p ∧ p - 1 ∈ l)) (hcap : sumZ ws l ≤ m) {s : Sc} {z : Nat} (h : StI ws l b t m ps s z) :
    ∃ z', StI ws l b t m ps (nextS ps s) z' ∧ (doneS ps s = false → measS m ps (nextS ps s) < measS m ps s ∧ z' + (nextS ps s).qs.length = z + s.qs.length + 1) := by
  cases hd : doneS ps s with
  | true => exact ⟨z, by unfold nextS; rw [if_pos hd]; exact h, fun h2 => by cases h2⟩
  | false =>
    obtain ⟨s', e, h1, h2⟩ := once_ok H hps hcap h hd
    have en : nextS ps s = s' := by unfold nextS; rw [if_neg (by rw [hd]; simp), e]; rfl
    rw [en]
    rcases h2 with ⟨_, h3, h4⟩ | ⟨_, h3, h4⟩
    · exact ⟨z, h4, fun _ => ⟨h1, by omega⟩⟩
    · exact ⟨z + 1, h4, fun _ => ⟨h1, by rw [h3]; omega⟩⟩
theorem run_ok (H : Heap ws l b t) (hps : ∀ p ∈ ps, p = 0 ∨ (1 ≤ p ∧ p - 1 ∈ l)) (hcap : sumZ ws l ≤ m) : ∀ (n : Nat) (s : Sc) (z : Nat), StI ws l b t m ps s z →
    ∃ z', StI ws l b t m ps (runS ps n s) z' ∧ (doneS ps (runS ps n s) = false → measS m ps (runS ps n s) + n ≤ measS m ps s ∧ z' + (runS ps n s).qs.length = z + s.qs.length + n)
  | 0, s, z, h => ⟨z, h, fun _ => ⟨Nat.le_refl _, rfl⟩⟩
  | n + 1, s, z, h => by
    obtain ⟨z1, h1, h2⟩ := next_ok H hps hcap h
    obtain ⟨z2, h3, h4⟩ := run_ok H hps hcap n (nextS ps s) z1 h1
    refine ⟨z2, h3, fun hd => ?_⟩
    have hd0 : doneS ps s = false := by
      cases hd0 : doneS ps s with
      | false => rfl
      | true =>
        have : runS ps (n + 1) s = s := run_done hd0 _
        rw [this, hd0] at hd
        cases hd
    obtain ⟨a1, a2⟩ := h2 hd0
    obtain ⟨a3, a4⟩ := h4 hd
    show measS m ps (runS ps n (nextS ps s)) + (n + 1) ≤ _ ∧ z2 + (runS ps n (nextS ps s)).qs.length = _
    exact ⟨by omega, by omega⟩
theorem run_end (H : Heap ws l b t) (hps : ∀ p ∈ ps, p = 0 ∨ (1 ≤ p ∧ p - 1 ∈ l)) (hcap : sumZ ws l ≤ m) {n : Nat} {s : Sc} {z : Nat} (h : StI ws l b t m ps s z) (hn : measS m ps s < n) : doneS ps (runS ps n s) = true := by
  obtain ⟨_, _, h2⟩ := run_ok H hps hcap n s z h
  cases hd : doneS ps (runS ps n s) with
  | true => rfl
  | false => have := (h2 hd).1; omega
end
end Go.Proofs.Ytbanbpphadgoiaa
/- Live; known of layer 21. No conditions. -/
namespace Go.Proofs.Ytbanbpphadgoiaa
set_option linter.unusedVariables false
set_option linter.unusedSimpArgs false
open Go.RowKit Go.Maps
set_option maxHeartbeats 4000000
set_option maxRecDepth 100000
/-- What a copy tells: the roots' places, the end, the words. -/
def tellC (x : Option (List Nat × Cy)) : Option (List Nat × Nat × List (BitVec 64)) := x.map fun r => (r.1, r.2.top, r.2.T)
def kS0 : List (BitVec 64) := List.replicate 20 0#64
def kS1 : List (BitVec 64) := allocW kS0 3 3 (packH 2 0 false 0)
def kS2 : List (BitVec 64) := allocW kS1 6 2 (packH 1 0 false 0)
def kS3 : List (BitVec 64) := kS2.set 7 (BitVec.ofNat 64 7)
theorem kS3_obj : objF kS3 8 9 3 = some [3, 6] := by decide +kernel
theorem kS3_well : [3, 6].all (wellN kS3 [3, 6]) = true := by decide +kernel
theorem kS3_len : kS3.length = 20 := by decide +kernel
theorem kS3_c1 : tellC (copyC kS3 10 [7, 0, 7]) = some ([1, 0, 1], 2, packH 1 0 false 0 :: 1#64 :: List.replicate 8 0#64) := by decide +kernel
theorem kS3_c2 : copyC kS3 1 [7] = none := by decide +kernel
theorem kS3_c3 : (tellC (copyC kS3 8192 [7])).map (fun r => r.2.1) = some 2 := by decide +kernel
end Go.Proofs.Ytbanbpphadgoiaa
/- slices.Clone of ints. Conditions: lengths. -/
namespace Go.Proofs.Ytbanbpphadgoiaa
set_option linter.unusedVariables false
set_option linter.unusedSimpArgs false
open Go.RowKit Go.Maps
set_option maxHeartbeats 1000000
set_option maxRecDepth 100000
theorem zV_one : ∀ x : Int, (zV x).oneCell' = true := fun _ => rfl
theorem iclone_z (xs : List Int) (A : Option Addr) (c : Nat) (w : World) (hr : Rd zV w w.heap.size A xs) (hl : xs.length ≤ 1073741824) : Calls Try.prog 33 #[.slice A xs.length c] w fun r w' => ∃ A2 c2, r = .returned (.slice A2 xs.length c2) ∧ Ow zV 3 w' w.heap.size (.slice A2 xs.length c2) xs ∧ Below w.heap.size w w' := by
  have hn := fun (a : Option Addr) (n c : Nat) (W : World) => Lib.run_eql_slice_nil (P := Try.prog) W 23 3 a n c 0 0 (by kernel_rfl)
  rcases A with _ | ad
  · have hb : xs = [] := by
      cases xs with
      | nil => rfl
      | cons x xs => obtain ⟨ad, e, _⟩ := hr 0 (by simp); cases e
    subst hb
    go_enter Try.func33, Try.ntmps33
    go_wp2
    go_ret
    exact ⟨none, 0, rfl, Ow.nil_ _ _ _ _, (by repeat (first | with_reducible assumption | with_reducible exact Below.refl _ _ | with_reducible apply bdN | with_reducible apply Below.drew | with_reducible refine Below.alloc ?_ (by simp) _ | with_reducible refine Below.setCell ?_ (by simp) _))⟩
  · go_enter Try.func33, Try.ntmps33
    go_wp2_with (at_builtin; refine wp_app oneI zV_one rfl (.tmp 5) (.tmp 6) rfl w.heap.size _ [] rfl (ow_empty zV 3 w w.heap.size (Nat.le_refl _)) (some ad) xs.length c xs rfl rfl w.heap.size (hr.alloc (Nat.le_refl _) _) (by simp; omega) (by decide) (by simp) ?_; intro v4 w4 ho4 hb4 hg4 hv4)
    rw [List.nil_append] at ho4
    obtain ⟨A4, c4, rfl, hc4⟩ := ho4.form
    go_ret
    exact ⟨A4, c4, rfl, ho4, (Gw.alloc w _).trans hb4⟩
end Go.Proofs.Ytbanbpphadgoiaa
/- A collector in memory; New, Done, Scan, Free. Conditions: lengths. -/
namespace Go.Proofs.Ytbanbpphadgoiaa
set_option linter.unusedVariables false
set_option linter.unusedSimpArgs false
open Go.RowKit Go.Maps
set_option maxHeartbeats 1000000
set_option maxRecDepth 100000
theorem Bk.six {W : World} {g : Nat} {E : TypeId} {a b c d e f : Value} (h : Bk W g E #[a, b, c, d, e, f]) : W.cell? ⟨g, 0, none⟩ = some a ∧ W.cell? ⟨g, 1, none⟩ = some b ∧ W.cell? ⟨g, 2, none⟩ = some c ∧ W.cell? ⟨g, 3, none⟩ = some d ∧ W.cell? ⟨g, 4, none⟩ = some e ∧ W.cell? ⟨g, 5, none⟩ = some f :=
  ⟨h.cell 0, h.cell 1, h.cell 2, h.cell 3, h.cell 4, h.cell 5⟩
/-- Where a collector's parts lie. -/
structure CoF where
  H1 : Nat
  H2 : Nat
  C : Nat
  s1 : Nat
  g1 : Nat
  v1 : Value
  s2 : Nat
  g2 : Nat
  v2 : Value
  b : Nat
  t : Nat
  e : Nat
  xr : Value
structure CoAt (W : World) (B : Nat) (S : Nat → Prop) (Q : Nat) (f : CoF) (roots : List Int) (xw : Value) (s : Sc) (n : Int) (full : Bool) : Prop where
  cy : CyAt W B f.H1 f.H2 f.C f.s1 f.g1 f.v1 f.s2 f.g2 f.v2 f.b f.t f.e s.c
  blk : Bk W Q 84 #[.pointer (some ⟨f.C, 0, none⟩), f.xr, xw, .int .i64 s.sc, .int .u64 n, .bool full]
  rr : Ow zV 3 W (f.C + 1) f.xr roots
  ww : Ow zV 3 W (f.C + 1) xw (backZ s.qs)
  CQ : f.C < Q
  ne : ∀ k, xw.ownBlock = some k → k ≠ Q ∧ f.xr.ownBlock ≠ some k
  neR : f.xr.ownBlock ≠ some Q
  own : ∀ k, S k → B ≤ k ∧ k < W.heap.size
  inc : ∀ k, k = f.C ∨ k = f.s1 ∨ k = f.g1 ∨ k = f.s2 ∨ k = f.g2 ∨ k = Q ∨ f.v1.ownBlock = some k ∨ f.v2.ownBlock = some k ∨ f.xr.ownBlock = some k ∨ xw.ownBlock = some k → S k
section
variable {W W' : World} {B Q : Nat} {S S' : Nat → Prop} {f : CoF} {roots : List Int} {xw : Value} {s : Sc} {n : Int} {full : Bool}
theorem CyAt.keptS {H1 H2 C s1 g1 : Nat} {v1 : Value} {s2 g2 : Nat} {v2 : Value} {b t e : Nat} {c : Cy} (h : CyAt W B H1 H2 C s1 g1 v1 s2 g2 v2 b t e c) (k : Kept S W W') (n : ∀ j, j = C ∨ j = s1 ∨ j = g1 ∨ j = s2 ∨ j = g2 ∨ v1.ownBlock = some j ∨ v2.ownBlock = some j → ¬ S j) : CyAt W' B H1 H2 C s1 g1 v1 s2 g2 v2 b t e c :=
  ⟨k.bk h.blk (n _ (.inl rfl)), h.fr.kept k (n _ (.inr (.inl rfl))) (n _ (.inr (.inr (.inl rfl)))) (fun j hj => n _ (.inr (.inr (.inr (.inr (.inr (.inl hj))))))), h.to_.kept k (n _ (.inr (.inr (.inr (.inl rfl))))) (n _ (.inr (.inr (.inr (.inr (.inl rfl)))))) (fun j hj => n _ (.inr (.inr (.inr (.inr (.inr (.inr hj))))))), h.g2H, h.v2H, h.s2H, h.s1C, h.g1C, h.v1C, h.HC, h.BH⟩
theorem CoAt.kept (h : CoAt W B S Q f roots xw s n full) (k : Kept S' W W') (d : ∀ j, S j → ¬ S' j) : CoAt W' B S Q f roots xw s n full := by
  refine ⟨h.cy.keptS k fun j hj => d j (h.inc j ?_), k.bk h.blk (d _ (h.inc _ (by simp))), k.ow h.rr (fun j hj => d j (h.inc j (by simp [hj]))), k.ow h.ww (fun j hj => d j (h.inc j (by simp [hj]))), h.CQ, h.ne, h.neR, fun j hj => ⟨(h.own j hj).1, Nat.lt_of_lt_of_le (h.own j hj).2 k.size⟩, h.inc⟩
  rcases hj with h | h | h | h | h | h | h <;> simp [h]
theorem CoAt.below (h : CoAt W B S Q f roots xw s n full) (hb : Below W.heap.size W W') : CoAt W' B S Q f roots xw s n full := h.kept (Kept.of_below hb (fun _ => False)) (fun _ _ h => h)
theorem CoAt.form (h : CoAt W B S Q f roots xw s n full) : ∃ A c A2 c2, xw = .slice A s.qs.length c ∧ f.xr = .slice A2 roots.length c2 := by
  obtain ⟨A, c, e, _⟩ := h.ww.form
  obtain ⟨A2, c2, e2, _⟩ := h.rr.form
  exact ⟨A, c, A2, c2, by rw [e]; simp [backZ], e2⟩
end
/-- A new collector. -/
def NewS (ws : List (BitVec 64)) (m : Nat) : Sc := ⟨⟨ws, List.replicate m 0#64, 0⟩, [], 0⟩
theorem snew_err (w : World) (s : Value) (A : Option Addr) (n c : Nat) (words E : Int) (hE : E ≠ 0) (HN : Hid (Calls Try.prog 32 #[s, .slice A n c, .int .i64 words] w (RetP (.tuple #[.pointer none, .int .i64 E]) w))) :
    Calls Try.prog 10 #[s, .slice A n c, .int .i64 words] w (RetP (.tuple #[.pointer none, .int .i64 E]) w) := by
  go_enter Try.func10, Try.ntmps10
  go_wp2_with fail
  refine Calls.mono HN.out ?_
  rintro r w2 ⟨rfl, b2⟩
  have H2 := Lib.hid b2
  clear b2
  go_wp2_with fail
  go_ret2
  exact ⟨rfl, H2.out⟩
theorem snew_ok (w : World) (B s g : Nat) (v : Value) (ws : List (BitVec 64)) (b t e : Nat) (p : SpAt w B s g v ws b t e) (hl : ws.length ≤ 8192) (A : Option Addr) (roots : List Int) (c : Nat) (hr : Rd zV w w.heap.size A roots) (hrl : roots.length ≤ 100000) (hrw : ∀ r ∈ roots, kW r) (m : Nat) (hm : m ≤ 8192) (hE : checkE ws b t roots = 0) :
    Calls Try.prog 10 #[.pointer (some ⟨s, 0, none⟩), .slice A roots.length c, .int .i64 m] w fun r w' => ∃ (S : Nat → Prop) (Q : Nat) (f : CoF) (xw : Value), r = .returned (.tuple #[.pointer (some ⟨Q, 0, none⟩), .int .i64 0]) ∧ CoAt w' w.heap.size S Q f roots xw (NewS ws m) 0 false ∧ f.b = b ∧ f.t = t ∧ Below w.heap.size w w' := by
  have HN := Lib.hid (cnew_ok w B s g v ws b t e p hl A roots c hr hrl hrw m hm hE)
  have HC := Lib.hid (fun W (hb : Below w.heap.size w W) => iclone_z roots A c W ((hr.below hb).more hb.size) (by omega))
  obtain ⟨n, hn⟩ : ∃ n, n = roots.length := ⟨_, rfl⟩
  rw [← hn] at HN HC ⊢
  clear p hl hr hrl hrw hm hE hn
  go_enter Try.func10, Try.ntmps10
  go_wp2_with fail
  refine Calls.mono HN.out ?_
  rintro r w2 ⟨H1, H2, C, s1, g1, v1, s2, g2, v2, rfl, hc2, b2⟩
  have K2 := Lib.hid (And.intro hc2 b2)
  clear hc2 b2
  go_wp2_with fail
  refine Calls.mono (HC.out w2 K2.out.2) ?_
  rintro r w3 ⟨A3, c3, rfl, ho3, b3⟩
  have K3 := Lib.hid (And.intro ho3 (And.intro (K2.out.1.below b3) (K2.out.2.trans (b3.mono K2.out.2.size))))
  have Kb := Lib.hid b3
  clear ho3 b3
  go_wp2_with fail
  go_ret2
  obtain ⟨xr, hxr⟩ : ∃ xr, xr = Value.slice A3 n c3 := ⟨_, rfl⟩
  have ho3 := K3.out.1
  rw [← hxr] at ho3
  have hb := Gw.alloc w3 (.cells #[.pointer (some ⟨C, 0, none⟩), .slice A3 n c3, .slice none 0 0, .int .i64 0, .int .u64 0, .bool false] 84)
  have hk := Bk.new w3 84 #[.pointer (some ⟨C, 0, none⟩), .slice A3 n c3, .slice none 0 0, .int .i64 0, .int .u64 0, .bool false]
  have hcy := K3.out.2.1
  have hC2 := K2.out.1.blk.lt
  have hbs := Kb.out.size
  have hb4 := K3.out.2.2.alloc K3.out.2.2.size (.cells #[.pointer (some ⟨C, 0, none⟩), .slice A3 n c3, .slice none 0 0, .int .i64 0, .int .u64 0, .bool false] 84)
  have hk1 := hcy.keptC.1
  have q1 := hcy.fr.hs
  have q2 := hcy.s2H
  have q3 := hcy.BH
  have q4 := hcy.HC
  have q5 := hcy.to_.hs
  have q6 := hcy.s1C
  have q7 := hcy.fr.mem.ge
  have q8 := hcy.g1C
  have q9 := hcy.to_.mem.ge
  have q10 := hcy.g2H
  refine ⟨fun j => w.heap.size ≤ j ∧ j ≤ w3.heap.size, w3.heap.size, ⟨H1, H2, C, s1, g1, v1, s2, g2, v2, b, t, e, xr⟩, .slice none 0 0, rfl, ?_, rfl, rfl, hb4⟩
  refine ⟨hcy.below hb, by rw [hxr]; exact hk, (ho3.mono (show C + 1 ≤ w2.heap.size from hC2)).below hb, Ow.nil_ _ _ _ _, Nat.lt_of_lt_of_le hC2 hbs, (fun k hk => by cases hk), ?_, fun k hk => ⟨hk.1, ?_⟩, ?_⟩
  · intro h
    have := (ho3.lt _ h).2
    omega
  · exact Nat.lt_of_le_of_lt hk.2 (Bk.lt (Bk.new w3 84 #[.pointer (some ⟨C, 0, none⟩), .slice A3 n c3, .slice none 0 0, .int .i64 0, .int .u64 0, .bool false]))
  · rintro k (h | h | h | h | h | h | h | h | h | h)
    · have h : k = C := h; exact ⟨by omega, by omega⟩
    · have h : k = s1 := h; exact ⟨by omega, by omega⟩
    · have h : k = g1 := h; exact ⟨by omega, by omega⟩
    · have h : k = s2 := h; exact ⟨by omega, by omega⟩
    · have h : k = g2 := h; exact ⟨by omega, by omega⟩
    · have h : k = w3.heap.size := h; exact ⟨by have := K3.out.2.2.size; omega, by omega⟩
    · have h1 := hcy.fr.mem.own_ge k h; have h2 := hcy.v1C k h; exact ⟨by omega, by omega⟩
    · have h1 := hcy.to_.mem.own_ge k h; have h2 := hcy.v2H k h; exact ⟨by omega, by omega⟩
    · have h1 := ho3.lt k h; exact ⟨by omega, by omega⟩
    · cases h
section
variable {B Q : Nat} {S : Nat → Prop} {f : CoF} {roots : List Int} {xw : Value} {s : Sc} {n : Int}
theorem scscan_c (w : World) (p : CoAt w B S Q f roots xw s n false) : Calls Try.prog 20 #[.pointer (some ⟨Q, 0, none⟩)] w (RetP (.int .i64 s.sc) w) := by
  obtain ⟨c0, c1, c2, c3, c4, c5⟩ := p.blk.six
  clear p
  go_enter Try.func20, Try.ntmps20
  go_wp2_with fail
  go_ret
  exact ⟨rfl, Below.refl _ _⟩
theorem scfree_c (w : World) {full : Bool} (p : CoAt w B S Q f roots xw s n full) : Calls Try.prog 21 #[.pointer (some ⟨Q, 0, none⟩)] w (RetP (.int .i64 s.c.top) w) := by
  obtain ⟨c0, c1, c2, c3, c4, c5⟩ := p.blk.six
  have HT := Lib.hid (ctop_c w p.cy)
  clear p
  go_enter Try.func21, Try.ntmps21
  go_wp2_with fail
  refine Calls.mono HT.out ?_
  rintro r w2 ⟨rfl, b2⟩
  have HB2 := Lib.hid b2
  clear b2
  go_wp2_with fail
  go_ret
  exact ⟨rfl, HB2.out⟩
end
end Go.Proofs.Ytbanbpphadgoiaa
