/- Texts joined: StH ObO StK StL OpenW OpenZ InZ StM. -/
import Derived.Test.YtbanbpphadgoiaaZa5
import Derived.Test.YtbanbpphadgoiaaSpH
import Derived.Test.YtbanbpphadgoiaaFrame
import Derived.Test.YtbanbpphadgoiaaMmA
import Derived.Test.YtbanbpphadgoiaaMem
import Derived.Deep.Grids
/- Steps of any size lead to what copying at once gives; how many steps there are (pure, but for cheney.Copy's errors). Conditions: room for all objects. -/
namespace Go.Proofs.Ytbanbpphadgoiaa
set_option linter.unusedVariables false
set_option linter.unusedSimpArgs false
open Go.RowKit Go.Maps
section
variable {ws : List (BitVec 64)} {l : List Nat} {b t m : Nat} {ps : List Nat} {s s' : Sc} {R : Option (List Nat × Cy)}
/-- What is left to do gives R. -/
def RunR (m : Nat) (ps : List Nat) (R : Option (List Nat × Cy)) (s : Sc) : Prop :=
  (s.sc = 0 ∧ s.qs.length ≤ ps.length ∧ contC m (ps.drop s.qs.length) s.c s.qs = R) ∨ (s.qs.length = ps.length ∧ ∃ f, m + 1 ≤ s.sc + f ∧ ((goC f s.sc s.c).map fun d => (s.qs, d)) = R)
theorem run_r0 : RunR m ps (copyC ws m ps) (NewS ws m) := .inl ⟨rfl, Nat.zero_le _, (copyC_cont ws m ps).symm⟩
theorem RunR.scan (h : RunR m ps R s) (hq : s.qs.length = ps.length) : ∃ f, m + 1 ≤ s.sc + f ∧ ((goC f s.sc s.c).map fun d => (s.qs, d)) = R := by
  rcases h with ⟨h1, h2, h3⟩ | ⟨_, h2⟩
  · refine ⟨m + 1, by omega, ?_⟩
    rw [← h3, List.drop_of_length_le (by omega), h1]
    show _ = finC m s.c (s.qs ++ [])
    rw [List.append_nil]; rfl
  · exact h2
theorem RunR.next (H : Heap ws l b t) (hps : ∀ p ∈ ps, p = 0 ∨ (1 ≤ p ∧ p - 1 ∈ l)) (h : SI ws l b t m ps s) (hd : doneS ps s = false) (he : onceS ps s = some s') (r : RunR m ps R s) : RunR m ps R s' := by
  obtain ⟨ys, h1, h2⟩ := h.ord
  have htm : s.c.top ≤ m := by have := h.inv.2.1.2.2; rw [h.len] at this; exact this
  by_cases hq : s.qs.length < ps.length
  · unfold onceS at he
    rw [if_pos hq] at he
    cases hr : takeP s.c (ps.getD s.qs.length 0) with
    | none => rw [hr] at he; cases he
    | some z =>
      obtain ⟨q, d⟩ := z
      rw [hr] at he
      injection he with he
      subst he
      rcases r with ⟨r1, r2, r3⟩ | ⟨r1, _⟩
      · refine .inl ⟨r1, by simp; omega, ?_⟩
        rw [List.drop_eq_getElem_cons hq, contC_cons] at r3
        have e : ps.getD s.qs.length 0 = ps[s.qs.length] := by rw [List.getD_eq_getElem?_getD, List.getElem?_eq_getElem hq]; rfl
        rw [e] at hr
        rw [hr] at r3
        simpa using r3
      · omega
  · have hne : s.sc < s.c.top := by have := done_no h.qs hd hq; have := h2.le; omega
    obtain ⟨a, ys2, rfl, n1, n2, n3, n4, n5, n6, n7, n8⟩ := next_obj H h.inv h2 h1 hne
    obtain ⟨f, r1, r2⟩ := r.scan (by have := h.qs; omega)
    obtain ⟨f', rfl⟩ : ∃ f', f = f' + 1 := ⟨f - 1, by omega⟩
    have hgo : goC (f' + 1) s.sc s.c = match scanC s.sc (P0 (s.c.T.getD s.sc 0#64)) 0 s.c with
        | none => none
        | some z => goC f' (s.sc + szX (z.T.getD s.sc 0#64)) z := by
      show (if s.sc < s.c.top then _ else _) = _
      rw [if_pos hne]
      cases scanC s.sc (P0 (s.c.T.getD s.sc 0#64)) 0 s.c <;> rfl
    rw [hgo] at r2
    unfold onceS at he
    rw [if_neg hq] at he
    cases hr : scanC s.sc (P0 (s.c.T.getD s.sc 0#64)) 0 s.c with
    | none => rw [hr] at he; cases he
    | some d =>
      rw [hr] at he r2
      injection he with he
      subst he
      obtain ⟨j1, ⟨ext, j2, j3⟩, j4, j5, j6, j7⟩ := scanC_inv H (P0 (s.c.T.getD s.sc 0#64)) 0 s.c ys2 (by omega) h.inv n5 n6 n4 n7 (fun a h => h1 a (.tail _ h)) hr
      have hza : d.T.getD s.sc 0#64 = s.c.T.getD s.sc 0#64 := j7 s.sc (by omega) (by omega)
      have r2 : Option.map (fun d => (s.qs, d)) (goC f' (s.sc + szX (d.T.getD s.sc 0#64)) d) = R := r2
      rw [hza] at r2
      have hqq := h.qs
      exact .inr ⟨show s.qs.length = ps.length by omega, f', show m + 1 ≤ s.sc + szX (s.c.T.getD s.sc 0#64) + f' by omega, r2⟩
theorem RunR.end_ (r : RunR m ps R s) (hd : doneS ps s = true) : R = some (s.qs, s.c) := by
  have hd : s.qs.length = ps.length ∧ s.sc = s.c.top := of_decide_eq_true hd
  obtain ⟨f, _, r2⟩ := r.scan hd.1
  have hgo : goC f s.sc s.c = some s.c := by
    cases f with
    | zero => rfl
    | succ f' => show (if s.sc < s.c.top then _ else _) = _; rw [if_neg (by omega)]
  rw [hgo] at r2
  exact r2.symm
/-- A collector with room for all: so many times something was done. -/
structure LawI (ws : List (BitVec 64)) (l : List Nat) (b t m : Nat) (ps : List Nat) (R : Option (List Nat × Cy)) (s : Sc) (c : Nat) : Prop where
  st : ∃ z, StI ws l b t m ps s z ∧ z + s.qs.length = c
  run : RunR m ps R s
theorem LawI.si {c : Nat} (h : LawI ws l b t m ps R s c) : SI ws l b t m ps s := h.st.elim fun _ h => h.1.si
theorem law_start (H : Heap ws l b t) (hm : m ≤ 8192) : LawI ws l b t m ps (copyC ws m ps) (NewS ws m) 0 := ⟨⟨0, st_start H hm, rfl⟩, run_r0⟩
theorem law_once (H : Heap ws l b t) (hps : ∀ p ∈ ps, p = 0 ∨ (1 ≤ p ∧ p - 1 ∈ l)) (hcap : sumZ ws l ≤ m) {c : Nat} (h : LawI ws l b t m ps R s c) (hd : doneS ps s = false) : ∃ s', onceS ps s = some s' ∧ LawI ws l b t m ps R s' (c + 1) ∧ measS m ps s' < measS m ps s := by
  obtain ⟨z, h1, h2⟩ := h.st
  obtain ⟨s', e, k1, k2⟩ := once_ok H hps hcap h1 hd
  refine ⟨s', e, ⟨?_, RunR.next H hps h1.si hd e h.run⟩, k1⟩
  rcases k2 with ⟨_, k3, k4⟩ | ⟨_, k3, k4⟩
  · exact ⟨z, k4, by omega⟩
  · exact ⟨z + 1, k4, by rw [k3]; omega⟩
theorem law_go (H : Heap ws l b t) (hps : ∀ p ∈ ps, p = 0 ∨ (1 ≤ p ∧ p - 1 ∈ l)) (hcap : sumZ ws l ≤ m) : ∀ (k : Nat) (s : Sc) (c : Nat), LawI ws l b t m ps R s c →
    ∃ s' c', goS ps k s c = some (s', c') ∧ LawI ws l b t m ps R s' c' ∧ c' + measS m ps s' ≤ c + measS m ps s ∧ c ≤ c' ∧ c' ≤ c + k ∧ (doneS ps s' = true ∨ c' = c + k)
  | 0, s, c, h => ⟨s, c, rfl, h, Nat.le_refl _, Nat.le_refl _, Nat.le_refl _, .inr rfl⟩
  | k + 1, s, c, h => by
    cases hd : doneS ps s with
    | true => exact ⟨s, c, goS_done hd c _, h, Nat.le_refl _, Nat.le_refl _, by omega, .inl hd⟩
    | false =>
      obtain ⟨s1, e1, h1, m1⟩ := law_once H hps hcap h hd
      obtain ⟨s2, c2, e2, h2, m2, n2, n3, d2⟩ := law_go H hps hcap k s1 (c + 1) h1
      refine ⟨s2, c2, ?_, h2, by omega, by omega, by omega, d2.imp id (fun h => by omega)⟩
      unfold goS
      rw [if_neg (by rw [hd]; simp), e1]
      exact e2
theorem meas_end (h : SI ws l b t m ps s) (hd : doneS ps s = false) : 1 ≤ measS m ps s := by
  obtain ⟨ys, h1, h2⟩ := h.ord
  have hle := h2.le
  have htm : s.c.top ≤ m := by have := h.inv.2.1.2.2; rw [h.len] at this; exact this
  unfold measS
  by_cases hq : s.qs.length < ps.length
  · omega
  · have := done_no h.qs hd hq; omega
/-- All is copied in the end. -/
theorem law_end (H : Heap ws l b t) (hps : ∀ p ∈ ps, p = 0 ∨ (1 ≤ p ∧ p - 1 ∈ l)) (hcap : sumZ ws l ≤ m) {c : Nat} (h : LawI ws l b t m ps R s c) : ∃ s' c', goS ps (measS m ps s) s c = some (s', c') ∧ LawI ws l b t m ps R s' c' ∧ doneS ps s' = true ∧ c ≤ c' ∧ (doneS ps s = false → c < c') := by
  obtain ⟨s', c', e, h1, h2, h3, h4, h5⟩ := law_go H hps hcap (measS m ps s) s c h
  have hd' : doneS ps s' = true := by
    cases hd : doneS ps s' with
    | true => rfl
    | false =>
      have := meas_end h1.si hd
      rcases h5 with h5 | h5
      · rw [hd] at h5; cases h5
      · omega
  refine ⟨s', c', e, h1, hd', h3, fun hd => ?_⟩
  have hm := meas_end h.si hd
  obtain ⟨k, hk⟩ : ∃ k, measS m ps s = k + 1 := ⟨measS m ps s - 1, by omega⟩
  obtain ⟨s1, e1, g1, m1⟩ := law_once H hps hcap h hd
  obtain ⟨s2, c2, e2, g2, m2, n2, _⟩ := law_go H hps hcap k s1 (c + 1) g1
  rw [hk] at e
  unfold goS at e
  rw [if_neg (by rw [hd]; simp), e1] at e
  have e : goS ps k s1 (c + 1) = some (s', c') := e
  rw [e2] at e
  injection e with e
  injection e with e3 e4
  omega
/-- The objects of a space, counted. -/
theorem heads_obj {T : List (BitVec 64)} {top : Nat} (hz : ∀ a ∈ l, goodX (ws.getD a 0#64) 1000000 = true) : ∀ (n : Nat) (r : List Nat) (p : Nat), (∀ a ∈ r, a ∈ l) → Heads ws T r p top → top < p + n → ∃ l', objF T top n p = some l' ∧ l'.length = r.length
  | 0, r, p, _, h, hn => by have := h.sum; omega
  | n + 1, [], p, _, h, _ => by
    have h : p = top := h
    refine ⟨[], ?_, rfl⟩
    show (if p < top then _ else _) = _
    rw [if_neg (by omega)]
  | n + 1, a :: r, p, hr, h, hn => by
    obtain ⟨h1, h2⟩ := h
    have hg := hz a (hr a (.head _))
    have hs := size_pos hg
    have hle := h2.sum
    obtain ⟨l', e1, e2⟩ := heads_obj hz n r (p + szX (ws.getD a 0#64)) (fun x hx => hr x (.tail _ hx)) h2 (by omega)
    refine ⟨p :: l', ?_, by simp [e2]⟩
    show (if p < top then (if goodX (T.getD p 0#64) (top - p) = true then (objF T top n (p + szX (T.getD p 0#64))).map (p :: ·) else none) else some []) = _
    have hgT : goodX (T.getD p 0#64) (top - p) = true := by
      rw [h1]
      obtain ⟨g1, g2, g3⟩ := goodX_out hg
      unfold goodX
      rw [g1, g2]
      exact decide_eq_true (by omega)
    rw [if_pos (by omega), if_pos hgT, h1, e1]
    rfl
/-- How many times something was done in all. -/
theorem law_count (H : Heap ws l b t) {c : Nat} (h : LawI ws l b t m ps R s c) (hd : doneS ps s = true) : ∃ l', objF s.c.T s.c.top (s.c.top + 1) 0 = some l' ∧ c = l'.length + ps.length := by
  have hd : s.qs.length = ps.length ∧ s.sc = s.c.top := of_decide_eq_true hd
  obtain ⟨z, h1, h2⟩ := h.st
  obtain ⟨zs, ys, e1, e2, e3, _⟩ := h1.ord
  rw [hd.2] at e3
  obtain ⟨l', k1, k2⟩ := heads_obj (l := l) (fun a ha => by
    have hg := (H.good a ha).2.2
    obtain ⟨g1, g2, g3⟩ := goodX_out hg
    have := H.tl
    have := H.wl
    unfold goodX
    rw [g1, g2]
    exact decide_eq_true (by omega)) (s.c.top + 1) zs 0 (fun a ha => e2.2.2.1 a (List.mem_append.2 (.inl ha))) e3 (by omega)
  exact ⟨l', k1, by omega⟩
end
theorem check0 {ws : List (BitVec 64)} {b t : Nat} {l : List Nat} {roots : List Int} (ho : objF ws t (t + 1) b = some l) (h : checkE ws b t roots = 0) : l.all (wellN ws l) = true ∧ roots.all (rootB l) = true := by
  unfold checkE at h
  rw [ho] at h
  simp only at h
  by_cases h1 : l.all (wellN ws l) = true
  · rw [if_pos h1] at h
    by_cases h2 : roots.all (rootB l) = true
    · exact ⟨h1, h2⟩
    · rw [if_neg h2] at h; cases h
  · rw [if_neg h1] at h; cases h
set_option maxHeartbeats 1000000
set_option maxRecDepth 100000
theorem copy_err (w : World) (s : Value) (A : Option Addr) (n c : Nat) (words E : Int) (hE : E ≠ 0) (HN : Hid (Calls Try.prog 32 #[s, .slice A n c, .int .i64 words] w (RetP (.tuple #[.pointer none, .int .i64 E]) w))) :
    Calls Try.prog 24 #[s, .slice A n c, .int .i64 words] w (RetP (.tuple #[.pointer none, .slice none 0 0, .int .i64 E]) w) := by
  go_enter Try.func24, Try.ntmps24
  go_wp2_with fail
  refine Calls.mono HN.out ?_
  rintro r w2 ⟨rfl, b2⟩
  have H2 := Lib.hid b2
  clear b2
  go_wp2_with fail
  go_ret3
  exact ⟨rfl, H2.out⟩
end Go.Proofs.Ytbanbpphadgoiaa
/- loamlaw16.To: words as a space, or none. Conditions: lengths. -/
namespace Go.Proofs.Ytbanbpphadgoiaa
set_option linter.unusedVariables false
set_option linter.unusedSimpArgs false
open Go.RowKit
set_option maxHeartbeats 1000000
set_option maxRecDepth 100000
/-- Is there no such space? -/
def toN (ws : List (BitVec 64)) (b t e : Int) : Prop := (b < 0 ∨ (¬ b < 0 ∧ t < b) ∨ (¬ b < 0 ∧ ¬ t < b ∧ e < t) ∨ (¬ b < 0 ∧ ¬ t < b ∧ ¬ e < t ∧ (ws.length : Int) < e))
theorem to_out (w : World) (A : Option Addr) (ws : List (BitVec 64)) (c : Nat) (hr : Rd u64v w w.heap.size A ws) (hl : ws.length ≤ 8192) (b t e : Int) (ho : toN ws b t e) : Calls Try.prog 9 #[.slice A ws.length c, .int .i64 b, .int .i64 t, .int .i64 e] w (RetP (.pointer none) w) := by
  have HMem := Lib.hid (mem15_c w A c ws hr hl)
  have HOf := Lib.hid (fun W B g v (h : MemAt W B g v ws) => sof_out W (.pointer (some ⟨g, 0, none⟩)) b t e (bare_out W B g v ws b t e h ho))
  obtain ⟨N, hN⟩ : ∃ N, N = ws.length := ⟨_, rfl⟩
  rw [← hN] at HMem ⊢
  clear hr hl hN ho
  go_enter Try.func9, Try.ntmps9
  go_wp2_with fail
  refine Calls.mono HMem.out ?_
  rintro r w2 ⟨g, v, rfl, h2, b2⟩
  have HM2 := Lib.hid (HOf.out w2 _ g v h2)
  have HB2 := Lib.hid b2
  clear h2 b2
  go_wp2_with fail
  refine Calls.mono HM2.out ?_
  rintro r w3 ⟨rfl, rfl⟩
  go_wp2_with fail
  go_ret
  exact ⟨rfl, HB2.out⟩
theorem to_none (w : World) (A : Option Addr) (ws : List (BitVec 64)) (c : Nat) (hr : Rd u64v w w.heap.size A ws) (hl : ws.length ≤ 8192) (b t e : Nat) (hbt : b ≤ t) (hte : t ≤ e) (hel : e ≤ ws.length) (ho : objF ws t (t + 1) b = none) : Calls Try.prog 9 #[.slice A ws.length c, .int .i64 b, .int .i64 t, .int .i64 e] w (RetP (.pointer none) w) := by
  have HMem := Lib.hid (mem15_c w A c ws hr hl)
  have HOf := Lib.hid (fun W B g v (h : MemAt W B g v ws) => sof_none W B g v ws b t e h hbt hte hel (by omega) ho)
  obtain ⟨N, hN⟩ : ∃ N, N = ws.length := ⟨_, rfl⟩
  rw [← hN] at HMem ⊢
  clear hr hl hN ho hbt hte hel
  go_enter Try.func9, Try.ntmps9
  go_wp2_with fail
  refine Calls.mono HMem.out ?_
  rintro r w2 ⟨g, v, rfl, h2, b2⟩
  have HM2 := Lib.hid (HOf.out w2 _ g v h2)
  have HB2 := Lib.hid b2
  clear h2 b2
  go_wp2_with fail
  refine Calls.mono HM2.out ?_
  rintro r w3 ⟨rfl, b3⟩
  have HB3 := Lib.hid (HB2.out.trans (b3.mono HB2.out.size))
  clear b3
  go_wp2_with fail
  go_ret
  exact ⟨rfl, HB3.out⟩
theorem to_some (w : World) (A : Option Addr) (ws : List (BitVec 64)) (c : Nat) (hr : Rd u64v w w.heap.size A ws) (hl : ws.length ≤ 8192) (b t e : Nat) (hbt : b ≤ t) (hte : t ≤ e) (hel : e ≤ ws.length) (l : List Nat) (ho : objF ws t (t + 1) b = some l) : Calls Try.prog 9 #[.slice A ws.length c, .int .i64 b, .int .i64 t, .int .i64 e] w fun r w' => ∃ s g v, r = .returned (.pointer (some ⟨s, 0, none⟩)) ∧ SpAt w' w.heap.size s g v ws b t e ∧ Below w.heap.size w w' := by
  have HMem := Lib.hid (mem15_c w A c ws hr hl)
  have HOf := Lib.hid (fun W B g v (h : MemAt W B g v ws) => sof_some W B g v ws b t e h hbt hte hel (by omega) l ho)
  obtain ⟨N, hN⟩ : ∃ N, N = ws.length := ⟨_, rfl⟩
  rw [← hN] at HMem ⊢
  clear hr hl hN ho hbt hte hel
  go_enter Try.func9, Try.ntmps9
  go_wp2_with fail
  refine Calls.mono HMem.out ?_
  rintro r w2 ⟨g, v, rfl, h2, b2⟩
  have HM2 := Lib.hid (HOf.out w2 _ g v h2)
  have HB2 := Lib.hid b2
  clear h2 b2
  go_wp2_with fail
  refine Calls.mono HM2.out ?_
  rintro r w3 ⟨s, rfl, h3, b3⟩
  have HB3 := Lib.hid (And.intro h3 (HB2.out.trans (b3.mono HB2.out.size)))
  clear b3 h3
  go_wp2_with fail
  go_ret
  exact ⟨s, g, v, rfl, HB3.out.1, HB3.out.2⟩
/-- What To makes of words. -/
def toP (ws : List (BitVec 64)) (b t e : Int) (w : World) (r : Ending) (w' : World) : Prop :=
  (r = .returned (.pointer none) ∧ Below w.heap.size w w') ∨ ∃ (B T E : Nat) (s g : Nat) (v : Value) (l : List Nat), b = (B : Int) ∧ t = (T : Int) ∧ e = (E : Int) ∧ B ≤ T ∧ T ≤ E ∧ E ≤ ws.length ∧ objF ws T (T + 1) B = some l ∧ r = .returned (.pointer (some ⟨s, 0, none⟩)) ∧ SpAt w' w.heap.size s g v ws B T E ∧ Below w.heap.size w w'
theorem to_c (w : World) (A : Option Addr) (ws : List (BitVec 64)) (c : Nat) (hr : Rd u64v w w.heap.size A ws) (hl : ws.length ≤ 8192) (b t e : Int) : Calls Try.prog 9 #[.slice A ws.length c, .int .i64 b, .int .i64 t, .int .i64 e] w (toP ws b t e w) := by
  by_cases ho : toN ws b t e
  · exact (to_out w A ws c hr hl b t e ho).mono fun r w' h => .inl h
  · unfold toN at ho
    obtain ⟨B, rfl⟩ : ∃ k : Nat, b = (k : Int) := ⟨b.toNat, by omega⟩
    obtain ⟨T, rfl⟩ : ∃ k : Nat, t = (k : Int) := ⟨t.toNat, by omega⟩
    obtain ⟨E, rfl⟩ : ∃ k : Nat, e = (k : Int) := ⟨e.toNat, by omega⟩
    cases h : objF ws T (T + 1) B with
    | none => exact (to_none w A ws c hr hl B T E (by omega) (by omega) (by omega) h).mono fun r w' h => .inl h
    | some l => exact (to_some w A ws c hr hl B T E (by omega) (by omega) (by omega) l h).mono fun r w' ⟨s, g, v, h1, h2, h3⟩ => .inr ⟨B, T, E, s, g, v, l, rfl, rfl, rfl, by omega, by omega, by omega, h, h1, h2, h3⟩
end Go.Proofs.Ytbanbpphadgoiaa
/- known of layer 22 returns true. No conditions. -/
namespace Go.Proofs.Ytbanbpphadgoiaa
set_option linter.unusedVariables false
set_option linter.unusedSimpArgs false
open Go.RowKit Go.Maps
set_option maxHeartbeats 4000000
set_option maxRecDepth 100000
def kT0 : List (BitVec 64) := List.replicate 10 0#64
def kT1 : List (BitVec 64) := allocW kT0 0 2 (packH 1 0 false 0)
theorem kT_len : kT0.length = 10 ∧ kT1.length = 10 := by decide +kernel
theorem kT_obj : objF kT1 2 3 0 = some [0] := by decide +kernel
theorem kT_well : [0].all (wellN kT1 [0]) = true := by decide +kernel
theorem kT_heap : Heap kT1 [0] 0 2 := heap_of kT_obj kT_well (by rw [kT_len.2]; decide) (by rw [kT_len.2]; decide)
theorem kT_check : checkE kT1 0 2 [0] = 0 := by decide +kernel
theorem kT_roots : RootsOk [0] [(0 : Int)] := ⟨by decide, by decide⟩
theorem kT_ps : [(0 : Int)].map rootP = [1] := rfl
theorem kT_g1 : (goS [1] 1 (NewS kT1 10) 0).map (fun r => (doneS [1] r.1, r.1.sc, r.1.c.top, r.2)) = some (false, 0, 2, 1) := by decide +kernel
theorem kT_g2 : ((reS [1] 1 (NewS kT1 10)).bind fun s => (goS [1] 1 s 1).map (fun r => (doneS [1] r.1, r.1.qs, r.1.c.top, r.1.c.T.length, r.2))) = some (true, [1], 2, 10, 2) := by decide +kernel
theorem kT_d0 : doneS [1] (NewS kT1 10) = false := by decide +kernel
theorem kT_st : stN (uintL (BitVec.ofNat 64 1)) = 1 ∧ (∀ ws m, stR [1] ws m (uintL (BitVec.ofNat 64 1)) = reS [1] 1 (NewS ws m)) := by
  have h := dec_uint_back (BitVec.ofNat 64 1) []
  rw [List.append_nil] at h
  refine ⟨by unfold stN; rw [h]; decide +kernel, fun ws m => ?_⟩
  unfold stR
  rw [h]
  have : (BitVec.ofNat 64 1).toNat = 1 := by decide +kernel
  simp only [this]
theorem kT_a : ∃ s1, goS [1] 1 (NewS kT1 10) 0 = some (s1, 1) ∧ doneS [1] s1 = false ∧ s1.sc = 0 ∧ s1.c.top = 2 ∧ reS [1] 1 (NewS kT1 10) = some s1 ∧ ∃ s2, goS [1] 1 s1 1 = some (s2, 2) ∧ doneS [1] s2 = true ∧ s2.qs = [1] ∧ s2.c.top = 2 ∧ s2.c.T.length = 10 := by
  have h1 := kT_g1
  cases hg : goS [1] 1 (NewS kT1 10) 0 with
  | none => rw [hg] at h1; cases h1
  | some z =>
    obtain ⟨s1, c1⟩ := z
    rw [hg] at h1
    simp only [Option.map_some, Option.some.injEq, Prod.mk.injEq] at h1
    obtain ⟨a1, a2, a3, rfl⟩ := h1
    have h0 := kT_d0
    have hr : reS [1] 1 (NewS kT1 10) = some s1 := by
      unfold goS at hg
      unfold reS
      rw [if_neg (by rw [h0]; simp)] at hg ⊢
      cases ho : onceS [1] (NewS kT1 10) with
      | none => rw [ho] at hg; cases hg
      | some s' =>
        rw [ho] at hg
        have hg : some (s', 0 + 1) = some (s1, 1) := hg
        injection hg with hg
        injection hg with hg
        subst hg; rfl
    refine ⟨s1, rfl, a1, a2, a3, hr, ?_⟩
    have h2 := kT_g2
    rw [hr] at h2
    simp only [Option.bind_some] at h2
    cases hg2 : goS [1] 1 s1 1 with
    | none => rw [hg2] at h2; cases h2
    | some z =>
      obtain ⟨s2, c2⟩ := z
      rw [hg2] at h2
      simp only [Option.map_some, Option.some.injEq, Prod.mk.injEq] at h2
      obtain ⟨b1, b2, b3, b4, rfl⟩ := h2
      exact ⟨s2, rfl, b1, b2, b3, b4⟩
theorem kT_si {s1 : Sc} (h : goS [1] 1 (NewS kT1 10) 0 = some (s1, 1)) : SI kT1 [0] 0 2 10 [1] s1 ∧ 1 + measS 10 [1] s1 ≤ 1000000 := by
  obtain ⟨s', c', e, h1, h2, _⟩ := law_go (R := copyC kT1 10 [1]) kT_heap kT_roots.ps (m := 10) (by decide +kernel) 1 (NewS kT1 10) 0 (law_start kT_heap (by decide))
  have e : goS [1] 1 (NewS kT1 10) 0 = some (s', c') := e
  rw [h] at e
  injection e with e
  injection e with e1 e2
  subst e1; subst e2
  have : measS 10 ([(0 : Int)].map rootP) (NewS kT1 10) = 11 := by decide +kernel
  rw [this] at h2
  exact ⟨h1.si, Nat.le_trans h2 (by decide)⟩
theorem kT_al (w : World) (B s g : Nat) (v : Value) (h : SpAt w B s g v kT0 0 0 10) : Calls Try.prog 29 #[.pointer (some ⟨s, 0, none⟩), .agg #[.int .i64 1, .int .i64 0, .bool false, .int .i64 0]] w fun r w' => r = .returned (.tuple #[.int .i64 0, .int .i64 0]) ∧ SpAt w' B s g v kT1 0 2 10 ∧ Below B w w' :=
  alloc_ok w B s g v kT0 0 0 10 h (by rw [kT_len.1]; decide) 1 0 0 2 (by decide) (by decide) (by decide) (by decide)
theorem kT_kw : ∀ r ∈ [(0 : Int)], kW r := by
  intro r hr
  simp only [List.mem_cons, List.not_mem_nil, or_false] at hr
  subst hr; unfold kW; decide
theorem SpAt.low {w : World} {B B' s g : Nat} {v : Value} {ws : List (BitVec 64)} {b t e : Nat} (h : SpAt w B s g v ws b t e) (hB : B' ≤ B) : SpAt w B' s g v ws b t e :=
  ⟨⟨h.mem.blk, Nat.le_trans hB h.mem.ge, h.mem.row.mono hB, h.mem.ne⟩, h.blk, h.sg, h.sv, Nat.le_trans hB h.hs, h.bt, h.te, h.el⟩
theorem rd_z2 {w : World} {k : Nat} {E : TypeId} {xs : List Int} (h : Bk w k E (xs.map zV).toArray) : Rd zV w w.heap.size (some ⟨k, 0, none⟩) xs := fun j hj => by
  refine ⟨⟨k, 0, none⟩, rfl, h.lt, ?_⟩
  have h2 := h.cell j
  rw [show (⟨k, 0, none⟩ : Addr).add (j : Nat) = ⟨k, j, none⟩ from by simp [Addr.add]; exact fun h => h.symm]
  rw [h2]
  simp [hj]
theorem kT_res (W : World) (B s g : Nat) (v : Value) (h : SpAt W B s g v kT1 0 2 10) (A : Option Addr) (ca : Nat) (hr : Rd zV W W.heap.size A [0]) (A2 : Option Addr) (st : List (BitVec 8)) (c2 : Nat) (hst : Rd b8 W W.heap.size A2 st) (hl : st.length ≤ 1073741824) (s1 : Sc) (h1 : stN st = 1) (h2 : stR [1] kT1 10 st = some s1) :
    Calls Try.prog 13 #[.pointer (some ⟨s, 0, none⟩), .slice A 1 ca, .int .i64 10, .slice A2 st.length c2] W fun r w' => ∃ (S : Nat → Prop) (Q : Nat) (f : CoF) (xw : Value), r = .returned (.tuple #[.pointer (some ⟨Q, 0, none⟩), .int .i64 0]) ∧ CoAt w' W.heap.size S Q f [0] xw s1 1 false ∧ f.b = 0 ∧ f.t = 2 ∧ Below W.heap.size W w' := by
  have k := resume_c W B s g v kT1 0 2 10 h (by rw [kT_len.2]; decide) [0] kT_heap A [0] ca hr kT_roots kT_kw 10 (by decide) kT_check A2 st c2 hst hl
  rw [h1, show stR ([(0 : Int)].map rootP) kT1 10 st = some s1 from h2] at k
  exact k
theorem kT_new (W : World) (B s g : Nat) (v : Value) (h : SpAt W B s g v kT1 0 2 10) (A : Option Addr) (ca : Nat) (hr : Rd zV W W.heap.size A [0]) :
    Calls Try.prog 10 #[.pointer (some ⟨s, 0, none⟩), .slice A 1 ca, .int .i64 10] W fun r w' => ∃ (S : Nat → Prop) (Q : Nat) (f : CoF) (xw : Value), r = .returned (.tuple #[.pointer (some ⟨Q, 0, none⟩), .int .i64 0]) ∧ CoAt w' W.heap.size S Q f [0] xw (NewS kT1 10) 0 false ∧ f.b = 0 ∧ f.t = 2 ∧ Below W.heap.size W w' :=
  snew_ok W B s g v kT1 0 2 10 h (by rw [kT_len.2]; decide) A [0] ca hr (by decide) kT_kw 10 (by decide) kT_check
theorem known22_c (w : World) : Calls Try.prog 8 #[] w (RetP (.bool true) w) := by
  obtain ⟨s1, g1, d1, sc1, tp1, r1, s2, g2, d2, q2, tp2, l2⟩ := kT_a
  have HPur := Lib.hid (And.intro g1 (And.intro d1 (And.intro sc1 (And.intro tp1 (And.intro r1 (And.intro g2 (And.intro d2 (And.intro q2 (And.intro tp2 l2)))))))))
  clear g1 d1 sc1 tp1 r1 g2 d2 q2 tp2 l2
  have HN := Lib.hid (new_in w 10 (by decide))
  have HS := Lib.hid (fun W g v (h : MemAt W w.heap.size g v kT0) => snew_in W w.heap.size g v kT0 0 10 h (by decide) (by rw [kT_len.1]; decide) (by rw [kT_len.1]; decide))
  have HA := Lib.hid (fun W s g v (h : SpAt W w.heap.size s g v kT0 0 0 10) => kT_al W w.heap.size s g v h)
  have HCn := Lib.hid (fun W s g v (h : SpAt W w.heap.size s g v kT1 0 2 10) A ca (hr : Rd zV W W.heap.size A [0]) => kT_new W w.heap.size s g v h A ca hr)
  obtain ⟨st, hst⟩ : ∃ st, st = uintL (BitVec.ofNat 64 1) := ⟨_, rfl⟩
  have hs1 : stN st = 1 ∧ stR [1] kT1 10 st = some s1 ∧ st.length ≤ 1073741824 := by
    rw [hst]
    exact ⟨kT_st.1, (kT_st.2 kT1 10).trans HPur.out.2.2.2.2.1, by have := uintF_len 9 (BitVec.ofNat 64 1); unfold uintL; omega⟩
  have HSt := Lib.hid hst
  have HRs := Lib.hid (fun W s g v (h : SpAt W w.heap.size s g v kT1 0 2 10) A ca (hr : Rd zV W W.heap.size A [0]) A2 c2 (hst : Rd b8 W W.heap.size A2 st) => kT_res W w.heap.size s g v h A ca hr A2 st c2 hst hs1.2.2 s1 hs1.1 hs1.2.1)
  clear hst hs1
  go_enter Try.func8, Try.ntmps8
  go_wp2_with fail
  refine Calls.mono HN.out ?_
  rintro r w2 ⟨g, v, rfl, hm2, b2⟩
  have H2 := Lib.hid (And.intro hm2 b2)
  clear hm2 b2
  go_wp2_with fail
  refine Calls.mono (HS.out w2 g v H2.out.1) ?_
  rintro r w3 ⟨s, rfl, hp3, b3⟩
  have H3 := Lib.hid (And.intro hp3 (H2.out.2.trans (b3.mono H2.out.2.size)))
  have c0 := hp3.four.1
  clear hp3 b3
  go_wp2_with fail
  refine Calls.mono (HA.out w3 s g v H3.out.1) ?_
  rintro r w4 ⟨rfl, hp4, b4⟩
  have H4 := Lib.hid (And.intro hp4 (H3.out.2.trans b4))
  clear hp4 b4 c0
  go_wp2_with fail
  have hb5 := Gw.alloc w4 (.cells #[.int .i64 0] 3)
  have hr5 := rd_z2 (xs := [0]) (Bk.new w4 3 #[.int .i64 0])
  have H5 := Lib.hid (And.intro (H4.out.1.below hb5) (H4.out.2.alloc H4.out.2.size (.cells #[.int .i64 0] 3)))
  refine Calls.mono (HCn.out _ s g v H5.out.1 _ _ hr5) ?_
  rintro r w6 ⟨S, Q, f, xw, rfl, p6, fb, ft, b6⟩
  obtain ⟨B5, hB5⟩ : ∃ B, B = (w4.alloc (.cells #[.int .i64 0] 3)).heap.size := ⟨_, rfl⟩
  rw [← hB5] at p6 b6
  have H6 := Lib.hid (And.intro p6 (And.intro fb (And.intro ft (And.intro (show SpAt w6 w.heap.size s g v kT1 0 2 10 from H5.out.1.below (hB5 ▸ b6)) (And.intro (H5.out.2.trans ((hB5 ▸ b6).mono H5.out.2.size)) (show w.heap.size ≤ B5 from hB5 ▸ H5.out.2.size))))))
  have H6b := Lib.hid (show B5 ≤ w6.heap.size by rw [hB5]; exact b6.size)
  have HLt := Lib.hid (show s < B5 ∧ g < B5 ∧ (∀ k, v.ownBlock = some k → k < B5) from hB5 ▸ ⟨H5.out.1.blk.lt, H5.out.1.mem.blk.lt, fun k hk => (H5.out.1.mem.row.lt k hk).2⟩)
  clear hb5 hr5 p6 fb ft b6 hB5
  go_wp2_with fail
  refine Calls.mono (result_busy w6 H6.out.1 (by decide) (by decide) kT_d0) ?_
  rintro r w7 ⟨rfl, b7⟩
  have H7 := Lib.hid b7
  clear b7
  go_wp2_with fail
  have hst7 := step_c w7 0 (f := f) (l := [0]) (ws := kT1) (m := 10) (by rw [H6.out.2.1, H6.out.2.2.1]; exact kT_heap) kT_roots (H6.out.1.below H7.out) (by rw [H6.out.2.1, H6.out.2.2.1]; exact si_start kT_heap (by decide)) 1 (by decide) (by decide)
  rw [show goS ([(0 : Int)].map rootP) (1 : Int).toNat (NewS kT1 10) 0 = some (s1, 1) from HPur.out.1] at hst7
  have HSt7 := Lib.hid (show Calls Try.prog 15 #[.pointer (some ⟨Q, 0, none⟩), .int .i64 1] w7 (fun r w' => r = .returned (.tuple #[.bool false, .int .i64 0]) ∧ Kept S w7 w' ∧ ∃ (S' : Nat → Prop) (xw' : Value), CoAt w' B5 S' Q f [0] xw' s1 1 false ∧ ∀ k, S' k → S k ∨ w7.heap.size ≤ k) from by have h := hst7; unfold StepP at h; simp only at h; rw [show doneS ([(0 : Int)].map rootP) s1 = false from HPur.out.2.1] at h; exact h)
  clear hst7
  refine Calls.mono HSt7.out ?_
  rintro r w8 ⟨rfl, k8, S8, xw8, p8, n8⟩
  have hb8 : Below B5 w7 w8 := k8.below (Nat.le_trans H6b.out H7.out.size) (fun k hk => (H6.out.1.own k hk).1)
  have hb78 : Below B5 w6 w8 := (H7.out.mono H6b.out).trans hb8
  have hsp8 : SpAt w8 w.heap.size s g v kT1 0 2 10 := by
    have h := H6.out.2.2.2.1
    exact h.kept (Kept.of_below H7.out (fun _ => False)) (fun h => h) (fun h => h) (fun _ _ h => h) |>.kept k8 (fun h => by have := (H6.out.1.own _ h).1; have := HLt.out.1; omega) (fun h => by have := (H6.out.1.own _ h).1; have := HLt.out.2.1; omega) (fun j hj h => by have := (H6.out.1.own _ h).1; have := HLt.out.2.2 j hj; omega)
  have H8 := Lib.hid (And.intro p8 (And.intro hsp8 (H6.out.2.2.2.2.1.trans (hb78.mono H6.out.2.2.2.2.2))))
  clear k8 p8 n8 hb8 hb78 hsp8 HSt7
  go_wp2_with fail
  have hb9 := Gw.alloc w8 (.cells #[.int .i64 0] 3)
  have hr9 := rd_z2 (xs := [0]) (Bk.new w8 3 #[.int .i64 0])
  obtain ⟨w9, hw9⟩ : ∃ w9, w9 = w8.alloc (.cells #[.int .i64 0] 3) := ⟨_, rfl⟩
  rw [← hw9] at hb9 hr9 ⊢
  have H9 := Lib.hid (And.intro (H8.out.1.below hb9) (And.intro (H8.out.2.1.below hb9) (And.intro (H8.out.2.2.trans (hb9.mono H8.out.2.2.size)) hr9)))
  clear hw9 hb9 hr9
  refine Calls.mono (state_c w9 1 (by decide) H9.out.1) ?_
  rintro r w10 ⟨A10, c10, rfl, h10, r10, b10, a10⟩
  rw [← HSt.out] at r10 ⊢
  have H10 := Lib.hid (And.intro (H9.out.1.below b10) (And.intro (H9.out.2.1.below b10) (And.intro (H9.out.2.2.1.trans (b10.mono H9.out.2.2.1.size)) (And.intro ((H9.out.2.2.2.below b10).more b10.size) r10))))
  clear h10 r10 b10 a10
  go_wp2_with fail
  refine Calls.mono (HRs.out w10 s g v H10.out.2.1 _ _ H10.out.2.2.2.1 _ _ H10.out.2.2.2.2) ?_
  rintro r w11 ⟨Sd, Qd, fd, xd, rfl, p11, fdb, fdt, b11⟩
  have H11 := Lib.hid (And.intro p11 (And.intro (H10.out.1.below b11) (And.intro (H10.out.2.2.1.trans (b11.mono H10.out.2.2.1.size)) (And.intro fdb fdt))))
  have H11b := Lib.hid (show w10.heap.size ≤ w11.heap.size from b11.size)
  have H10w := Lib.hid (show w.heap.size ≤ w10.heap.size from H10.out.2.2.1.size)
  clear p11 fdb fdt b11
  go_wp2_with fail
  have hsi := kT_si HPur.out.1
  have hst := step_c w11 1 (f := fd) (l := [0]) (ws := kT1) (m := 10) (by rw [H11.out.2.2.2.1, H11.out.2.2.2.2]; exact kT_heap) kT_roots H11.out.1 (by rw [H11.out.2.2.2.1, H11.out.2.2.2.2]; exact hsi.1) 1 (by decide) hsi.2
  rw [show goS ([(0 : Int)].map rootP) (1 : Int).toNat s1 1 = some (s2, 2) from HPur.out.2.2.2.2.2.1] at hst
  have HSd := Lib.hid (show Calls Try.prog 15 #[.pointer (some ⟨Qd, 0, none⟩), .int .i64 1] w11 (fun r w' => r = .returned (.tuple #[.bool true, .int .i64 0]) ∧ Kept Sd w11 w' ∧ ∃ (S' : Nat → Prop) (xw' : Value), CoAt w' w10.heap.size S' Qd fd [0] xw' s2 2 false ∧ ∀ k, S' k → Sd k ∨ w11.heap.size ≤ k) from by have h := hst; unfold StepP at h; simp only at h; rw [show doneS ([(0 : Int)].map rootP) s2 = true from HPur.out.2.2.2.2.2.2.1] at h; exact h)
  clear hst hsi
  refine Calls.mono HSd.out ?_
  rintro r w12 ⟨rfl, k12, S12, x12, p12, n12⟩
  have H12 := Lib.hid (And.intro p12 (And.intro (H11.out.2.1.kept k12 (fun j hj h => by have h1 := (H10.out.1.own j hj).2; have h2 := (H11.out.1.own j h).1; omega)) (H11.out.2.2.1.trans ((k12.below H11b.out (fun k hk => (H11.out.1.own k hk).1)).mono H10w.out))))
  clear k12 p12 n12 HSd
  go_wp2_with fail
  have HRt := result_c w12 H12.out.1 (by decide) (by rw [HPur.out.2.2.2.2.2.2.2.1]; decide) (by rw [HPur.out.2.2.2.2.2.2.2.2.2]; decide) HPur.out.2.2.2.2.2.2.1
  rw [HPur.out.2.2.2.2.2.2.2.1, HPur.out.2.2.2.2.2.2.2.2.1] at HRt
  refine Calls.mono HRt ?_
  rintro r w13 ⟨s', g', v', A13, c13, rfl, hp13, ho13, b13⟩
  have ht13 := hp13.four.2.2.1
  obtain ⟨ad, rfl, hlt, hcell⟩ := ho13.rd 0 (by decide)
  have e0 : w13.cell? ad = some (.int .i64 0) := hcell
  have HScn := Lib.hid (fun W (hb : Below w13.heap.size w13 W) => scscan_c W ((H12.out.2.1.below b13).below hb))
  have HFre := Lib.hid (fun W (hb : Below w13.heap.size w13 W) => scfree_c W ((H12.out.2.1.below b13).below hb))
  have HDn := Lib.hid (fun W (hb : Below w13.heap.size w13 W) => done_c W ((H12.out.1.below b13).below hb) (by decide) (by rw [HPur.out.2.2.2.2.2.2.2.1]; decide))
  rw [HPur.out.2.2.1] at HScn
  rw [HPur.out.2.2.2.1] at HFre
  rw [show decide (s2.qs.length = [(0 : Int)].length ∧ s2.sc = s2.c.top) = true from HPur.out.2.2.2.2.2.2.1] at HDn
  have HB13 := Lib.hid (H12.out.2.2.trans (b13.mono H12.out.2.2.size))
  have hs13 := hp13.blk.lt
  clear hp13 ho13 b13 hcell HRt
  go_wp2_with fail
  refine Calls.mono (HScn.out w13 (Below.refl _ _)) ?_
  rintro r w14 ⟨rfl, b14⟩
  have H14 := Lib.hid b14
  have e0 := (b14.cell (p := ad) hlt).trans e0
  have ht14 := (b14.cell (p := ⟨s', 2, none⟩) hs13).trans ht13
  clear b14 ht13
  go_wp2_with fail
  refine Calls.mono (HFre.out w14 H14.out) ?_
  rintro r w15 ⟨rfl, b15⟩
  have H15 := Lib.hid (H14.out.trans (b15.mono H14.out.size))
  have e0 := (b15.cell (p := ad) (Nat.lt_of_lt_of_le hlt H14.out.size)).trans e0
  have ht15 := (b15.cell (p := ⟨s', 2, none⟩) (Nat.lt_of_lt_of_le hs13 H14.out.size)).trans ht14
  clear b15 ht14
  go_wp2_with fail
  refine Calls.mono (HDn.out w15 H15.out) ?_
  rintro r w16 ⟨rfl, b16⟩
  have H16 := Lib.hid (H15.out.trans (b16.mono H15.out.size))
  have e0 := (b16.cell (p := ad) (Nat.lt_of_lt_of_le hlt H15.out.size)).trans e0
  have ht16 := (b16.cell (p := ⟨s', 2, none⟩) (Nat.lt_of_lt_of_le hs13 H15.out.size)).trans ht15
  clear b16 ht15
  go_wp2_with fail
  go_ret
  exact ⟨rfl, HB13.out.trans (H16.out.mono HB13.out.size)⟩
end Go.Proofs.Ytbanbpphadgoiaa
/- A collector with room for all, as the laws of layer 22 use it. Conditions: lengths. -/
namespace Go.Proofs.Ytbanbpphadgoiaa
set_option linter.unusedVariables false
set_option linter.unusedSimpArgs false
open Go.RowKit Go.Maps
/-- What a law knows of a space and roots. -/
structure Lw (ws : List (BitVec 64)) (l : List Nat) (b t : Nat) (roots : List Int) : Prop where
  heap : Heap ws l b t
  rts : RootsOk l roots
  cap : sumZ ws l ≤ 300
  few : roots.length ≤ 30
theorem lw_of {ws : List (BitVec 64)} {l : List Nat} {b t : Nat} {roots : List Int} (ho : objF ws t (t + 1) b = some l) (hE : checkE ws b t roots = 0) (hbt : b ≤ t) (htl : t ≤ ws.length) (hl : ws.length ≤ 250) (hr : roots.length ≤ 30) : Lw ws l b t roots := by
  obtain ⟨h1, h2⟩ := check0 ho hE
  have := sum_obj (t + 1) b l hbt ho
  exact ⟨heap_of ho h1 htl (by omega), ⟨h2, by omega⟩, by omega, hr⟩
section
variable {ws : List (BitVec 64)} {l : List Nat} {b t : Nat} {roots : List Int} {B Q : Nat} {S : Nat → Prop} {f : CoF} {xw : Value} {s : Sc} {c : Nat}
def RL (ws : List (BitVec 64)) (roots : List Int) : Option (List Nat × Cy) := copyC ws 300 (roots.map rootP)
/-- A collector in memory, with room for all. -/
structure ColL (ws : List (BitVec 64)) (l : List Nat) (b t : Nat) (roots : List Int) (W : World) (B : Nat) (S : Nat → Prop) (Q : Nat) (f : CoF) (xw : Value) (s : Sc) (c : Nat) : Prop where
  co : CoAt W B S Q f roots xw s c false
  li : LawI ws l b t 300 (roots.map rootP) (RL ws roots) s c
  ms : c + measS 300 (roots.map rootP) s ≤ 330
  fb : f.b = b
  ft : f.t = t
theorem ColL.below {W W' : World} (h : ColL ws l b t roots W B S Q f xw s c) (hb : Below W.heap.size W W') : ColL ws l b t roots W' B S Q f xw s c := ⟨h.co.below hb, h.li, h.ms, h.fb, h.ft⟩
theorem ColL.kept {W W' : World} {S' : Nat → Prop} (h : ColL ws l b t roots W B S Q f xw s c) (k : Kept S' W W') (d : ∀ j, S j → ¬ S' j) : ColL ws l b t roots W' B S Q f xw s c := ⟨h.co.kept k d, h.li, h.ms, h.fb, h.ft⟩
theorem col_new (L : Lw ws l b t roots) {W : World} (p : CoAt W B S Q f roots xw (NewS ws 300) 0 false) (fb : f.b = b) (ft : f.t = t) : ColL ws l b t roots W B S Q f xw (NewS ws 300) 0 := by
  refine ⟨p, law_start L.heap (by decide), ?_, fb, ft⟩
  have h := L.few
  show 0 + (((roots.map rootP).length - 0) + (300 - 0)) ≤ 330
  rw [List.length_map]; omega
def LStepP (ws : List (BitVec 64)) (l : List Nat) (b t : Nat) (roots : List Int) (w : World) (B : Nat) (S : Nat → Prop) (Q : Nat) (f : CoF) (s : Sc) (c n : Nat) (r : Ending) (w' : World) : Prop :=
  ∃ (s' : Sc) (c' : Nat) (S' : Nat → Prop) (xw' : Value), r = .returned (.tuple #[.bool (doneS (roots.map rootP) s'), .int .i64 0]) ∧ ColL ws l b t roots w' B S' Q f xw' s' c' ∧ Kept S w w' ∧ (∀ k, S' k → S k ∨ w.heap.size ≤ k) ∧ c ≤ c' ∧ (doneS (roots.map rootP) s' = true ∨ c' = c + n) ∧ (doneS (roots.map rootP) s = true → s' = s ∧ c' = c) ∧ (n = 0 → s' = s ∧ c' = c)
theorem lstep_c (w : World) (L : Lw ws l b t roots) (p : ColL ws l b t roots w B S Q f xw s c) (n : Int) (hn : n ≤ 9223372036854775807) :
    Calls Try.prog 15 #[.pointer (some ⟨Q, 0, none⟩), .int .i64 n] w (LStepP ws l b t roots w B S Q f s c n.toNat) := by
  have hm := p.ms
  have h := step_c w c (by rw [p.fb, p.ft]; exact L.heap) L.rts p.co (m := 300) (by rw [p.fb, p.ft]; exact p.li.si) n hn (by omega)
  obtain ⟨s', c', e, h1, h2, h3, h4, h5⟩ := law_go L.heap L.rts.ps L.cap n.toNat s c p.li
  rw [e] at h
  refine h.mono ?_
  rintro r w' ⟨rfl, k, S', xw', q, hS⟩
  refine ⟨s', c', S', xw', rfl, ⟨q, h1, by omega, p.fb, p.ft⟩, k, hS, h3, h5, fun hd => ?_, fun h0 => ?_⟩
  · rw [goS_done hd] at e
    injection e with e
    injection e with e1 e2
    exact ⟨e1.symm, e2.symm⟩
  · rw [h0] at e
    have e : some (s, c) = some (s', c') := e
    injection e with e
    injection e with e1 e2
    exact ⟨e1.symm, e2.symm⟩
theorem ColL.qs (L : Lw ws l b t roots) {W : World} (h : ColL ws l b t roots W B S Q f xw s c) : s.qs.length ≤ 30 := by
  have h1 := h.li.si.qs
  rw [List.length_map] at h1
  have := L.few
  omega
theorem ldone_c (w : World) (L : Lw ws l b t roots) (p : ColL ws l b t roots w B S Q f xw s c) : Calls Try.prog 19 #[.pointer (some ⟨Q, 0, none⟩)] w (RetP (.bool (doneS (roots.map rootP) s)) w) := by
  have h := done_c w p.co L.rts.2 (by have := p.qs L; omega)
  have e : decide (s.qs.length = roots.length ∧ s.sc = s.c.top) = doneS (roots.map rootP) s := by unfold doneS; rw [List.length_map]
  rwa [e] at h
end
/-- New, in a law: the document's errors, or a collector with room for all. -/
def LNewP (ws : List (BitVec 64)) (l : List Nat) (b t : Nat) (roots : List Int) (w : World) (r : Ending) (w' : World) : Prop :=
  (∃ E : Int, E ≠ 0 ∧ E = checkE ws b t roots ∧ RetP (.tuple #[.pointer none, .int .i64 E]) w r w') ∨ (Lw ws l b t roots ∧ checkE ws b t roots = 0 ∧ ∃ (S : Nat → Prop) (Q : Nat) (f : CoF) (xw : Value), r = .returned (.tuple #[.pointer (some ⟨Q, 0, none⟩), .int .i64 0]) ∧ ColL ws l b t roots w' w.heap.size S Q f xw (NewS ws 300) 0 ∧ Below w.heap.size w w')
theorem lnew_c (w : World) (B s g : Nat) (v : Value) (ws : List (BitVec 64)) (b t e : Nat) (p : SpAt w B s g v ws b t e) (hl : ws.length ≤ 250) (l : List Nat) (ho : objF ws t (t + 1) b = some l) (A : Option Addr) (roots : List Int) (c : Nat) (hr : Rd zV w w.heap.size A roots) (hrl : roots.length ≤ 30) (hrw : ∀ r ∈ roots, kW r) :
    Calls Try.prog 10 #[.pointer (some ⟨s, 0, none⟩), .slice A roots.length c, .int .i64 300] w (LNewP ws l b t roots w) := by
  by_cases hE : checkE ws b t roots = 0
  · have L := lw_of ho hE p.bt (Nat.le_trans p.te p.el) hl hrl
    refine (show Calls Try.prog 10 #[.pointer (some ⟨s, 0, none⟩), .slice A roots.length c, .int .i64 ((300 : Nat) : Int)] w _ from snew_ok w B s g v ws b t e p (by omega) A roots c hr (by omega) hrw 300 (by decide) hE).mono ?_
    rintro r w' ⟨S, Q, f, xw, rfl, q, fb, ft, hb⟩
    exact .inr ⟨L, hE, S, Q, f, xw, rfl, col_new L q fb ft, hb⟩
  · exact (snew_err w _ A roots.length c 300 _ hE (Lib.hid (cnew_err w B s g v ws b t e p (by omega) A roots c hr (by omega) hrw 300 (by decide) hE))).mono fun r w' h => .inl ⟨_, hE, rfl, h⟩
end Go.Proofs.Ytbanbpphadgoiaa
/- How an argument of type []uint64 is opened. No conditions. -/
namespace Go.Proofs.Ytbanbpphadgoiaa
set_option linter.unusedVariables false
set_option linter.unusedSimpArgs false
open Go.ChangeShapes Go.WideShapes Go.ChangeAt Go.RowKit
theorem open_words {H : Type} {enc : TypeId × Value → H} {P : Program} {W : World} {base : Nat} {sp : Nat → Bool} {hd : Bool} {r : Reach} {b0 : Nat} {t e : TypeId} {v : Value} {d : DataW H} {p : List MemPlace}
    (ht : P.underlying t = some (.slice e)) (he : P.underlying e = some (.int .u64)) (hc : P.cellsOf e = 1)
    (hv : Value.okWide P W r b0 t v) (h : DataW.Trod enc P W base sp hd t v d p) :
    ∃ (A : Option Addr) (bs : List (BitVec 64)) (c : Nat), v = .slice A bs.length c ∧ bs.length ≤ c ∧ c ≤ maxLen ∧ Rd u64v W W.heap.size A bs := by
  obtain ⟨a0, len, cap, rfl⟩ := okWide_slice ht hv
  obtain ⟨fuel, hf⟩ := h
  rcases open_ints ht he hc hf with ⟨hcs, _⟩ | ⟨x, l, c, zs, hcs, _, hl, hm, hz, _, hcell, hwz⟩
  · simp [Value.cells] at hcs
    obtain ⟨rfl, rfl, rfl⟩ := hcs
    exact ⟨none, [], 0, rfl, Nat.le_refl _, by simp [maxLen], Rd.nil⟩
  · simp [Value.cells] at hcs
    obtain ⟨rfl, rfl, rfl⟩ := hcs
    have hlen : len ≤ zs.length := by rw [hz]; split <;> omega
    refine ⟨some x, (zs.take len).map (BitVec.ofInt 64), cap, by simp; omega, by simp; omega, hm, fun j hj => ?_⟩
    have hj' : j < len := by simp at hj; omega
    have hc1 := hcell j (by omega)
    have hb := cell_lt hc1
    rw [add_block] at hb
    refine ⟨x, rfl, hb, ?_⟩
    rw [hc1]
    have hw := hwz (zs.getD j 0) (by rw [List.getD_eq_getElem?_getD, List.getElem?_eq_getElem (by omega)]; exact List.getElem_mem _)
    rw [wfu64 hw]
    have e : zs.getD j 0 = zs[j]'(by omega) := by rw [List.getD_eq_getElem?_getD, List.getElem?_eq_getElem (by omega)]; rfl
    rw [e]
    simp [u64v]
end Go.Proofs.Ytbanbpphadgoiaa
/- How arguments of types []bool and []int are opened. No conditions. -/
namespace Go.Proofs.Ytbanbpphadgoiaa
set_option linter.unusedVariables false
set_option linter.unusedSimpArgs false
open Go.ChangeShapes Go.WideShapes Go.ChangeAt Go.RowKit
def boZ (b : Bool) : Value := .bool b
def inV (k : Int) : Value := .int .i64 k
theorem open_bools {H : Type} {enc : TypeId × Value → H} {P : Program} {W : World} {base : Nat} {hd : Bool} {r : Reach} {b0 : Nat} {t e : TypeId} {v : Value} {d : DataW H} {p : List MemPlace}
    (ht : P.underlying t = some (.slice e)) (he : P.underlying e = some .bool) (hc : P.cellsOf e = 1)
    (hv : Value.okWide P W r b0 t v) (h : DataW.Trod enc P W base (fun _ => true) hd t v d p) :
    ∃ (A : Option Addr) (bs : List Bool) (c : Nat), v = .slice A bs.length c ∧ bs.length ≤ c ∧ c ≤ maxLen ∧ (Rd boZ W W.heap.size A bs ∧ ∀ a, A = some a → a.block < W.heap.size) := by
  obtain ⟨a0, len, cap, rfl⟩ := okWide_slice ht hv
  obtain ⟨fuel, hf⟩ := h
  rcases Go.Deep.open_bools ht he hc hf with ⟨hcs, _⟩ | ⟨x, l, c, B, hcs, _, hl, hm, _, hcell⟩
  · simp [Value.cells] at hcs
    obtain ⟨rfl, rfl, rfl⟩ := hcs
    exact ⟨none, [], 0, rfl, Nat.le_refl _, by simp [maxLen], Rd.nil, fun a e => by cases e⟩
  · simp [Value.cells] at hcs
    obtain ⟨rfl, rfl, rfl⟩ := hcs
    have hx : x.block < W.heap.size := by
      have hx2 : Cell.okWide P W r b0 t (.slice (some x) len cap) := by unfold Value.okWide at hv; rw [ht] at hv; exact hv
      unfold Cell.okWide at hx2
      rw [ht] at hx2
      have hx3 : Cell.ok P W r b0 t (.slice (some x) len cap) := hx2
      unfold Cell.ok at hx3
      rw [ht] at hx3
      obtain ⟨_, _, _, _, row, cells, hs, _⟩ := hx3
      unfold World.shape? at hs
      by_cases hb : x.block < W.heap.size
      · exact hb
      · rw [Array.getElem?_eq_none (by omega)] at hs
        cases hs
    refine ⟨some x, (List.range len).map B, cap, by simp, by simp; omega, hm, fun j hj => ?_, fun a e => by cases e; exact hx⟩
    have hj' : j < len := by simp at hj; omega
    have hc1 := hcell j (by omega)
    have hb := cell_lt hc1
    rw [add_block] at hb
    exact ⟨x, rfl, hb, by rw [hc1]; simp [boZ]⟩
theorem open_intz {H : Type} {enc : TypeId × Value → H} {P : Program} {W : World} {base : Nat} {sp : Nat → Bool} {hd : Bool} {r : Reach} {b0 : Nat} {t e : TypeId} {v : Value} {d : DataW H} {p : List MemPlace}
    (ht : P.underlying t = some (.slice e)) (he : P.underlying e = some (.int .i64)) (hc : P.cellsOf e = 1)
    (hv : Value.okWide P W r b0 t v) (h : DataW.Trod enc P W base sp hd t v d p) :
    ∃ (A : Option Addr) (bs : List Int) (c : Nat), v = .slice A bs.length c ∧ bs.length ≤ c ∧ c ≤ maxLen ∧ (Rd inV W W.heap.size A bs ∧ ∀ x ∈ bs, (Lit.int .i64 x).wf = true) := by
  obtain ⟨a0, len, cap, rfl⟩ := okWide_slice ht hv
  obtain ⟨fuel, hf⟩ := h
  rcases open_ints ht he hc hf with ⟨hcs, _⟩ | ⟨x, l, c, zs, hcs, _, hl, hm, hz, _, hcell, hwz⟩
  · simp [Value.cells] at hcs
    obtain ⟨rfl, rfl, rfl⟩ := hcs
    exact ⟨none, [], 0, rfl, Nat.le_refl _, by simp [maxLen], Rd.nil, fun x hx => by cases hx⟩
  · simp [Value.cells] at hcs
    obtain ⟨rfl, rfl, rfl⟩ := hcs
    have hlen : len ≤ zs.length := by rw [hz]; split <;> omega
    refine ⟨some x, zs.take len, cap, by simp; omega, by simp; omega, hm, fun j hj => ?_, fun y hy => hwz y (List.mem_of_mem_take hy)⟩
    have hj' : j < len := by simp at hj; omega
    have hc1 := hcell j (by omega)
    have hb := cell_lt hc1
    rw [add_block] at hb
    refine ⟨x, rfl, hb, ?_⟩
    rw [hc1, List.getD_eq_getElem?_getD, List.getElem?_eq_getElem (by omega)]
    simp [inV]
end Go.Proofs.Ytbanbpphadgoiaa
/- loamlaw15.Ints of two rows that are alike. Conditions: lengths. -/
namespace Go.Proofs.Ytbanbpphadgoiaa
set_option linter.unusedVariables false
set_option linter.unusedSimpArgs false
open Go.RowKit Go.Maps
set_option maxHeartbeats 1000000
set_option maxRecDepth 100000
theorem inz_r (Q : Exit → Act → World → Prop) (a0 : Act) (w : World) (a b : Addr) (N j c1 c2 : Nat) (z : Int) (h1 : a.block < w.heap.size) (h2 : b.block < w.heap.size) (k1 : w.cell? (a.add j) = some (.int .i64 z)) (k2 : w.cell? (b.add j) = some (.int .i64 z)) (p1 : (0 : Int) ≤ (j : Int)) (p2 : (j : Int) < (N : Int)) (hsz : a0.tmps.size = 26) (sl0 : a0.tmps.getD 0 undef = .slice (some a) N c1) (sl1 : a0.tmps.getD 1 undef = .slice (some b) N c2) (sl5 : a0.tmps.getD 5 undef = .int .i64 j)
    (fin : ∀ (vals : Nat → Value) (w1 : World), Below w.heap.size w w1 → (IsV (.bool false)) (vals 8) w1 → Q .normal (putD vals [17, 18, 19, 20, 21, 22, 23, 24, 25] 0 a0) w1) :
    (Code.region 6 (regIn Try.f50 6) true).wp Try.prog Q a0 w := by
  refine region_by (G := fun w w1 => Below w.heap.size w w1) [IsV (.slice (some a) N c1),
    IsV (.int .i64 j),
    IsV (.pointer (some (a.add j))),
    IsV (.int .i64 z),
    IsV (.slice (some b) N c2),
    IsV (.int .i64 j),
    IsV (.pointer (some (b.add j))),
    IsV (.int .i64 z),
    IsV (.bool false)]
    [17, 18, 19, 20, 21, 22, 23, 24, 25] (by kernel_rfl) (Gw.drew _) Gw.trans (by rw [hsz]; kernel_rfl) (by kernel_rfl) ?_ ?_ ?_
  · intro f hf
    simp only [List.mem_cons, List.not_mem_nil, or_false] at hf
    rcases hf with rfl | rfl | rfl | rfl | rfl | rfl | rfl | rfl | rfl <;> intro v a b h g <;> first | exact IsV.mono h
  · refine ⟨?_, ?_, ?_, ?_, ?_, ?_, ?_, ?_, ?_, trivial⟩
    · exact owes_mv 0 (by kernel_rfl) (by kernel_rfl) (by kernel_rfl) sl0 (fun _ => rfl)
    · exact owes_mv 5 (by kernel_rfl) (by kernel_rfl) (by kernel_rfl) sl5 (fun _ => rfl)
    · refine owes_v (Go.Op.indexAddr 23 (Go.Operand.tmp 17) (Go.Operand.tmp 18)) 0 [0, 1] (by kernel_rfl) (by kernel_rfl) (by kernel_rfl) rfl fun vals w1 ρ hG hF hρ hcst hfun => ?_
      have e17 : ρ (.tmp 17) = .slice (some a) N c1 := ((hρ 17).trans (slotJ [0, 1] (by rw [hsz]; decide) (by kernel_rfl))).trans (hF 0 (by decide))
      have e18 : ρ (.tmp 18) = .int .i64 j := ((hρ 18).trans (slotJ [0, 1] (by rw [hsz]; decide) (by kernel_rfl))).trans (hF 1 (by decide))
      clear hρ hF hcst hfun sl0 sl1 sl5 fin
      exact opv_val (by go_simp <;> rfl) ⟨gw_self _, rfl⟩
    · refine owes_v (Go.Op.load 3 (Go.Operand.tmp 19)) 3 [2] (by kernel_rfl) (by kernel_rfl) (by kernel_rfl) rfl fun vals w1 ρ hG hF hρ hcst hfun => ?_
      have e19 : ρ (.tmp 19) = .pointer (some (a.add j)) := ((hρ 19).trans (slotJ [2] (by rw [hsz]; decide) (by kernel_rfl))).trans (hF 2 (by decide))
      have k := (hG.cell (p := a.add j) (by rw [add_block]; exact h1)).trans k1
      clear hρ hF hcst hfun sl0 sl1 sl5 fin
      exact opv_val (by go_simp <;> rfl) ⟨gw_self _, rfl⟩
    · exact owes_mv 1 (by kernel_rfl) (by kernel_rfl) (by kernel_rfl) sl1 (fun _ => rfl)
    · exact owes_mv 5 (by kernel_rfl) (by kernel_rfl) (by kernel_rfl) sl5 (fun _ => rfl)
    · refine owes_v (Go.Op.indexAddr 23 (Go.Operand.tmp 21) (Go.Operand.tmp 22)) 0 [4, 5] (by kernel_rfl) (by kernel_rfl) (by kernel_rfl) rfl fun vals w1 ρ hG hF hρ hcst hfun => ?_
      have e21 : ρ (.tmp 21) = .slice (some b) N c2 := ((hρ 21).trans (slotJ [4, 5] (by rw [hsz]; decide) (by kernel_rfl))).trans (hF 4 (by decide))
      have e22 : ρ (.tmp 22) = .int .i64 j := ((hρ 22).trans (slotJ [4, 5] (by rw [hsz]; decide) (by kernel_rfl))).trans (hF 5 (by decide))
      clear hρ hF hcst hfun sl0 sl1 sl5 fin
      exact opv_val (by go_simp <;> rfl) ⟨gw_self _, rfl⟩
    · refine owes_v (Go.Op.load 3 (Go.Operand.tmp 23)) 3 [6] (by kernel_rfl) (by kernel_rfl) (by kernel_rfl) rfl fun vals w1 ρ hG hF hρ hcst hfun => ?_
      have e23 : ρ (.tmp 23) = .pointer (some (b.add j)) := ((hρ 23).trans (slotJ [6] (by rw [hsz]; decide) (by kernel_rfl))).trans (hF 6 (by decide))
      have k := (hG.cell (p := b.add j) (by rw [add_block]; exact h2)).trans k2
      clear hρ hF hcst hfun sl0 sl1 sl5 fin
      exact opv_val (by go_simp <;> rfl) ⟨gw_self _, rfl⟩
    · refine owes_v (Go.Op.binOp Go.BinOp.neq 3 (Go.Operand.tmp 20) (Go.Operand.tmp 24) 3) 4 [3, 7] (by kernel_rfl) (by kernel_rfl) (by kernel_rfl) rfl fun vals w1 ρ hG hF hρ hcst hfun => ?_
      have e20 : ρ (.tmp 20) = .int .i64 z := ((hρ 20).trans (slotJ [3, 7] (by rw [hsz]; decide) (by kernel_rfl))).trans (hF 3 (by decide))
      have e24 : ρ (.tmp 24) = .int .i64 z := ((hρ 24).trans (slotJ [3, 7] (by rw [hsz]; decide) (by kernel_rfl))).trans (hF 7 (by decide))
      clear hρ hF hcst hfun sl0 sl1 sl5 fin
      exact opv_val (by go_simp <;> rfl) ⟨gw_self _, rfl⟩
  · intro vals w1 hG hF
    exact fin vals w1 hG (hF 8 (by decide +kernel))
theorem ints_z (w : World) (A1 A2 : Option Addr) (c1 c2 N : Nat) (xs : List Int) (hN : N = xs.length) (hl : N ≤ 1000) (h1 : Rd zV w w.heap.size A1 xs) (h2 : Rd zV w w.heap.size A2 xs) : Calls Try.prog 23 #[.slice A1 N c1, .slice A2 N c2] w (RetP (.bool true) w) := by
  have HI : Hid (Calls Try.prog 50 #[.slice A1 N c1, .slice A2 N c2] w (RetP (.bool true) w)) := Lib.hid (by
    have HN := Lib.hid hN
    have HR := Lib.hid (And.intro h1 h2)
    have hN2 : (N : Int) ≤ 1000 := by omega
    clear h1 h2 hl hN
    go_enter Try.func50, Try.ntmps50
    go_wp2_with fail
    go_loopw [5] (fun i wr => ∃ j : Nat, j ≤ N ∧ i = .int .i64 j ∧ Hid (Below w.heap.size w wr)) (fun i _ => N - (Go.RowKit.intOf i).toNat)
    case atStart => exact ⟨0, Nat.zero_le _, rfl, Lib.hid (Below.refl _ _)⟩
    case round =>
      obtain ⟨j, hj, rfl, hB⟩ := hrel
      by_cases hlt : j < N
      · have p1 : (0 : Int) ≤ (j : Int) := by omega
        have p2 : (j : Int) < (N : Int) := by omega
        have hjl : j < xs.length := by rw [← HN.out]; exact hlt
        obtain ⟨q1, rfl, hq1, k1⟩ := (HR.out.1.below hB.out) j hjl
        obtain ⟨q2, rfl, hq2, k2⟩ := (HR.out.2.below hB.out) j hjl
        obtain ⟨z, hz⟩ : ∃ z, z = xs[j] := ⟨_, rfl⟩
        rw [← hz] at k1 k2
        unfold zV at k1 k2
        have hsz := hB.out.size
        have HReg := Lib.hid (fun Q a0 => inz_r Q a0 wr q1 q2 N j c1 c2 z (Nat.lt_of_lt_of_le hq1 hsz) (Nat.lt_of_lt_of_le hq2 hsz) k1 k2 p1 p2)
        clear hz hjl k1 k2
        go_wp2_with fail
        refine HReg.out _ _ rfl rfl rfl rfl ?_
        intro vals w2 hG h25
        unfold IsV at h25
        simp only [putD, Act.put, List.setIfInBounds_toArray, List.set_cons_zero, List.set_cons_succ, h25]
        have HB2 := Lib.hid (hB.out.trans (hG.mono hB.out.size))
        clear h25 hG
        go_wp2_with fail
        go_roundw
        case rel => exact ⟨j + 1, by omega, by go_num, HB2⟩
        case measure => simp [Go.RowKit.intOf]; omega
      · obtain rfl : j = N := by omega
        go_wp2_with fail
        go_ret
        exact ⟨rfl, hB.out⟩)
  clear h1 h2 hN hl
  go_enter Try.func23, Try.ntmps23
  go_wp2_with fail
  refine Calls.mono HI.out ?_
  rintro r w1 ⟨rfl, b1⟩
  have HB := Lib.hid b1
  clear b1 HI
  go_wp2_with fail
  go_ret
  exact ⟨rfl, HB.out⟩
end Go.Proofs.Ytbanbpphadgoiaa
/- cheney.Copy and Result, as the laws of layer 22 use them. Conditions: lengths. -/
namespace Go.Proofs.Ytbanbpphadgoiaa
set_option linter.unusedVariables false
set_option linter.unusedSimpArgs false
open Go.RowKit Go.Maps
section
variable {ws : List (BitVec 64)} {l : List Nat} {b t : Nat} {roots : List Int} {B Q : Nat} {S : Nat → Prop} {f : CoF} {xw : Value} {s : Sc} {c : Nat}
theorem rl_some (L : Lw ws l b t roots) : ∃ qs d, RL ws roots = some (qs, d) ∧ d.T.length = 300 ∧ d.top ≤ 300 ∧ qs.length = roots.length ∧ ∃ l', objF d.T d.top (d.top + 1) 0 = some l' ∧ l'.length + roots.length ≤ 330 := by
  obtain ⟨s', c', e, h1, h2, _, _⟩ := law_end L.heap L.rts.ps L.cap (law_start (m := 300) L.heap (by decide))
  have hr := h1.run.end_ h2
  have h3 := h1.si
  have h4 : s'.qs.length = (roots.map rootP).length ∧ s'.sc = s'.c.top := of_decide_eq_true h2
  rw [List.length_map] at h4
  obtain ⟨l', k1, k2⟩ := law_count L.heap h1 h2
  obtain ⟨s2, c2, e2, g1, g2, _⟩ := law_go L.heap L.rts.ps L.cap (measS 300 (roots.map rootP) (NewS ws 300)) (NewS ws 300) 0 (law_start (m := 300) L.heap (by decide))
  rw [e] at e2
  injection e2 with e2
  injection e2 with e3 e4
  have hm : measS 300 (roots.map rootP) (NewS ws 300) ≤ 330 := by
    have := L.few
    show ((roots.map rootP).length - 0) + (300 - 0) ≤ 330
    rw [List.length_map]; omega
  rw [List.length_map] at k2
  exact ⟨s'.qs, s'.c, hr, h3.len, by have := h3.inv.2.1.2.2; rw [h3.len] at this; exact this, h4.1, l', k1, by omega⟩
/-- cheney.Copy, in a law. -/
def LCopyP (ws : List (BitVec 64)) (l : List Nat) (b t : Nat) (roots : List Int) (w : World) (r : Ending) (w' : World) : Prop :=
  (∃ E : Int, E ≠ 0 ∧ E = checkE ws b t roots ∧ RetP (.tuple #[.pointer none, .slice none 0 0, .int .i64 E]) w r w') ∨ (Lw ws l b t roots ∧ checkE ws b t roots = 0 ∧ ∃ (qs : List Nat) (d : Cy) (s' g' : Nat) (v' : Value) (q : Nat), RL ws roots = some (qs, d) ∧ r = .returned (.tuple #[.pointer (some ⟨s', 0, none⟩), .slice (some ⟨q, 0, none⟩) roots.length roots.length, .int .i64 0]) ∧ SpAt w' w.heap.size s' g' v' d.T 0 d.top 300 ∧ Rd zV w' w'.heap.size (some ⟨q, 0, none⟩) (backZ qs) ∧ Below w.heap.size w w')
theorem lcopy_c (w : World) (B s g : Nat) (v : Value) (ws : List (BitVec 64)) (b t e : Nat) (p : SpAt w B s g v ws b t e) (hl : ws.length ≤ 250) (l : List Nat) (ho : objF ws t (t + 1) b = some l) (A : Option Addr) (roots : List Int) (c : Nat) (hr : Rd zV w w.heap.size A roots) (hrl : roots.length ≤ 30) (hrw : ∀ r ∈ roots, kW r) :
    Calls Try.prog 24 #[.pointer (some ⟨s, 0, none⟩), .slice A roots.length c, .int .i64 300] w (LCopyP ws l b t roots w) := by
  by_cases hE : checkE ws b t roots = 0
  · have L := lw_of ho hE p.bt (Nat.le_trans p.te p.el) hl hrl
    obtain ⟨h1, h2⟩ := check0 ho hE
    obtain ⟨qs, d, hR, hT, htp, hq, _⟩ := rl_some L
    have k := (show Calls Try.prog 24 #[.pointer (some ⟨s, 0, none⟩), .slice A roots.length c, .int .i64 ((300 : Nat) : Int)] w _ from copy_c w B s g v ws b t e p (by omega) l ho h1 A roots c hr (by omega) hrw h2 300 (by decide))
    rw [show copyC ws 300 (roots.map rootP) = some (qs, d) from hR] at k
    refine k.mono ?_
    rintro r w' ⟨s', g', v', q, rfl, hsp, _, how, hb⟩
    have hlen : roots.length = (backZ qs).length := by simp [backZ, hq]
    refine .inr ⟨L, hE, qs, d, s', g', v', q, hR, rfl, hsp, ?_, hb⟩
    have how : Ow zV 3 w' w.heap.size (.slice (some ⟨q, 0, none⟩) roots.length roots.length) (backZ qs) := how
    have h3 : Ow zV 3 w' w.heap.size (.slice (some ⟨q, 0, none⟩) (backZ qs).length roots.length) (backZ qs) := hlen ▸ how
    exact h3.rd
  · exact (copy_err w _ A roots.length c 300 _ hE (Lib.hid (cnew_err w B s g v ws b t e p (by omega) A roots c hr (by omega) hrw 300 (by decide) hE))).mono fun r w' h => .inl ⟨_, hE, rfl, h⟩
theorem lresult_c (w : World) (L : Lw ws l b t roots) (p : ColL ws l b t roots w B S Q f xw s c) (hd : doneS (roots.map rootP) s = true) {qs : List Nat} {d : Cy} (hR : RL ws roots = some (qs, d)) :
    Calls Try.prog 17 #[.pointer (some ⟨Q, 0, none⟩)] w fun r w' => ∃ s' g' v' A2 c2, r = .returned (.tuple #[.pointer (some ⟨s', 0, none⟩), .slice A2 roots.length c2, .int .i64 0]) ∧ SpAt w' w.heap.size s' g' v' d.T 0 d.top 300 ∧ Rd zV w' w'.heap.size A2 (backZ qs) ∧ Below w.heap.size w w' := by
  have e := p.li.run.end_ hd
  rw [hR] at e
  injection e with e
  injection e with e1 e2
  have h3 := p.li.si
  have h4 : s.qs.length = (roots.map rootP).length ∧ s.sc = s.c.top := of_decide_eq_true hd
  rw [List.length_map] at h4
  have h5 := p.qs L
  refine (result_c w p.co L.rts.2 (by omega) (by rw [h3.len]; decide) hd).mono ?_
  rintro r w' ⟨s', g', v', A2, c2, rfl, hsp, how, hb⟩
  have hlen : s.qs.length = (backZ s.qs).length := by simp [backZ]
  have h6 : Ow zV 3 w' w.heap.size (.slice A2 (backZ s.qs).length c2) (backZ s.qs) := hlen ▸ how
  rw [h3.len] at hsp
  subst e1
  subst e2
  exact ⟨s', g', v', A2, c2, by rw [← h4.1], hsp, h6.rd, hb⟩
end
end Go.Proofs.Ytbanbpphadgoiaa
