/- Texts joined: StE EncA EncB EncC Only DecA DecB DecC. -/
import Derived.Test.YtbanbpphadgoiaaZb4
import Derived.Test.YtbanbpphadgoiaaRegT
import Derived.Test.YtbanbpphadgoiaaBel
import Derived.Test.YtbanbpphadgoiaaBitsB
import Derived.LoopTactic
import Derived.Deep.RegionLaw
import Derived.Deep.AppendLies
import Derived.Test.YtbanbpphadgoiaaRegV
/- A collector does so many times what is next: Step. Conditions: lengths. -/
namespace Go.Proofs.Ytbanbpphadgoiaa
set_option linter.unusedVariables false
set_option linter.unusedSimpArgs false
open Go.RowKit Go.Maps
/-- What each step keeps. -/
structure SI (ws : List (BitVec 64)) (l : List Nat) (b t m : Nat) (ps : List Nat) (s : Sc) : Prop where
  inv : InvC l ws b t s.c
  len : s.c.T.length = m
  qs : s.qs.length ≤ ps.length
  ord : ∃ ys, (∀ a ∈ ys, a ∈ l) ∧ Chain ws s.c.T ys s.sc s.c.top
section
variable {ws : List (BitVec 64)} {l : List Nat} {b t m : Nat} {ps : List Nat} {s s' : Sc}
theorem StI.si {z : Nat} (h : StI ws l b t m ps s z) : SI ws l b t m ps s := by
  obtain ⟨zs, ys, _, h2, _, h4⟩ := h.ord
  exact ⟨h.inv, h.len, h.qs, ys, fun a ha => h2.2.2.1 a (List.mem_append.2 (.inr ha)), h4⟩
theorem si_start (H : Heap ws l b t) (hm : m ≤ 8192) : SI ws l b t m ps (NewS ws m) := ⟨inv_start H hm, by simp [NewS], Nat.zero_le _, [], (fun _ h => (by cases h)), rfl⟩
theorem done_no (hq : s.qs.length ≤ ps.length) (h : doneS ps s = false) (hn : ¬ s.qs.length < ps.length) : s.sc ≠ s.c.top := by
  intro e
  have : doneS ps s = true := by unfold doneS; exact decide_eq_true ⟨by omega, e⟩
  rw [this] at h; cases h
theorem SI.once (H : Heap ws l b t) (hps : ∀ p ∈ ps, p = 0 ∨ (1 ≤ p ∧ p - 1 ∈ l)) (h : SI ws l b t m ps s) (hd : doneS ps s = false) (he : onceS ps s = some s') : SI ws l b t m ps s' ∧ measS m ps s' < measS m ps s := by
  obtain ⟨ys, h1, h2⟩ := h.ord
  have hle := h2.le
  have htm : s.c.top ≤ m := by have := h.inv.2.1.2.2; rw [h.len] at this; exact this
  by_cases hq : s.qs.length < ps.length
  · have hp := hps (ps.getD s.qs.length 0) (by rw [List.getD_eq_getElem?_getD, List.getElem?_eq_getElem hq]; exact List.getElem_mem _)
    unfold onceS at he
    rw [if_pos hq] at he
    cases hr : takeP s.c (ps.getD s.qs.length 0) with
    | none => rw [hr] at he; cases he
    | some z =>
      obtain ⟨q, d⟩ := z
      rw [hr] at he
      injection he with he
      subst he
      obtain ⟨k1, ext, k2, k3⟩ := takeP_inv H h.inv hp h2 hr
      obtain ⟨_, _, _, _, j5, _⟩ := takeP_ok h.inv.1 h.inv.2.1 hp hr
      refine ⟨⟨k1, j5.trans h.len, by simp; omega, ys ++ ext, fun a ha => (List.mem_append.1 ha).elim (h1 a) (k2 a), k3⟩, ?_⟩
      show (ps.length - (s.qs ++ [q]).length) + (m - s.sc) < (ps.length - s.qs.length) + (m - s.sc)
      simp; omega
  · have hne : s.sc < s.c.top := by have := done_no h.qs hd hq; omega
    obtain ⟨a, ys2, rfl, n1, n2, n3, n4, n5, n6, n7, n8⟩ := next_obj H h.inv h2 h1 hne
    unfold onceS at he
    rw [if_neg hq] at he
    cases hr : scanC s.sc (P0 (s.c.T.getD s.sc 0#64)) 0 s.c with
    | none => rw [hr] at he; cases he
    | some d =>
      rw [hr] at he
      injection he with he
      subst he
      obtain ⟨j1, ⟨ext, j2, j3⟩, j4, j5, j6, j7⟩ := scanC_inv H (P0 (s.c.T.getD s.sc 0#64)) 0 s.c ys2 (by omega) h.inv n5 n6 n4 n7 (fun a h => h1 a (.tail _ h)) hr
      refine ⟨⟨j1, j5.trans h.len, h.qs, ys2 ++ ext, fun a h => (List.mem_append.1 h).elim (fun h => h1 a (.tail _ h)) (j2 a), j3⟩, ?_⟩
      show (ps.length - s.qs.length) + (m - (s.sc + szX (s.c.T.getD s.sc 0#64))) < (ps.length - s.qs.length) + (m - s.sc)
      omega
end
/-- So many times what is next, and how often something was done. -/
def goS (ps : List Nat) : Nat → Sc → Nat → Option (Sc × Nat)
  | 0, s, c => some (s, c)
  | k + 1, s, c => if doneS ps s = true then some (s, c) else match onceS ps s with
    | none => none
    | some s' => goS ps k s' (c + 1)
theorem goS_done {ps : List Nat} {s : Sc} (h : doneS ps s = true) (c : Nat) : ∀ k, goS ps k s c = some (s, c)
  | 0 => rfl
  | k + 1 => by unfold goS; rw [if_pos h]
section
variable {B Q m : Nat} {S : Nat → Prop} {f : CoF} {roots : List Int} {xw : Value} {s : Sc} {l : List Nat} {ws : List (BitVec 64)}
theorem Kept.transF {S S' : Nat → Prop} {w w1 w2 : World} (h : Kept S w w1) (k : Kept S' w1 w2) (hS : ∀ j, S' j → S j ∨ w.heap.size ≤ j) : Kept S w w2 :=
  ⟨k.os.trans h.os, k.tape.trans h.tape, k.output.trans h.output, Nat.le_trans h.size k.size, fun i hi hn => (k.block i (Nat.lt_of_lt_of_le hi h.size) (fun hs => (hS i hs).elim hn (fun h => by omega))).trans (h.block i hi hn)⟩
/-- The roots are known. -/
def RootsOk (l : List Nat) (roots : List Int) : Prop := roots.all (rootB l) = true ∧ roots.length ≤ 100000
theorem RootsOk.ps (h : RootsOk l roots) : ∀ p ∈ roots.map rootP, p = 0 ∨ (1 ≤ p ∧ p - 1 ∈ l) := by
  intro p hp
  obtain ⟨r, hr, rfl⟩ := List.mem_map.1 hp
  exact (rootP_of (List.all_eq_true.1 h.1 r hr)).2
theorem once_c (w : World) (c : Nat) (H : Heap ws l f.b f.t) (hR : RootsOk l roots) (p : CoAt w B S Q f roots xw s c false) (h : SI ws l f.b f.t m (roots.map rootP) s) (hd : doneS (roots.map rootP) s = false) (hc : c < 9223372036854775807) :
    Calls Try.prog 42 #[.pointer (some ⟨Q, 0, none⟩)] w (OnceP w B S Q f roots xw s c (onceS (roots.map rootP) s)) := by
  have hrl := hR.2
  by_cases hq : s.qs.length < roots.length
  · obtain ⟨y, hy⟩ : ∃ y, y = roots[s.qs.length] := ⟨_, rfl⟩
    obtain ⟨h1, h2⟩ := rootP_of (List.all_eq_true.1 hR.1 y (by rw [hy]; exact List.getElem_mem _))
    have e : onceS (roots.map rootP) s = ((takeP s.c (rootP y)).map fun r => ⟨r.2, s.qs ++ [r.1], s.sc⟩) := by
      unfold onceS
      rw [if_pos (by rw [List.length_map]; exact hq)]
      congr 2
      rw [List.getD_eq_getElem?_getD, List.getElem?_map, List.getElem?_eq_getElem hq, hy]
      rfl
    rw [e]
    exact once_root w p h.inv.2.1 h.inv.1 hrl hq y hy.symm h1 h2 (by omega) (by omega)
  · have e : onceS (roots.map rootP) s = ((scanC s.sc (P0 (s.c.T.getD s.sc 0#64)) 0 s.c).map fun d => ⟨d, s.qs, s.sc + szX (s.c.T.getD s.sc 0#64)⟩) := by
      unfold onceS
      rw [if_neg (by rw [List.length_map]; exact hq)]
    rw [e]
    obtain ⟨ys, h1, h2⟩ := h.ord
    have hle := h2.le
    have hne : s.sc < s.c.top := by have := done_no h.qs hd (by rw [List.length_map]; exact hq); omega
    obtain ⟨a, ys2, rfl, n1, n2, n3, n4, n5, n6, n7, n8⟩ := next_obj H h.inv h2 h1 hne
    have hql := h.qs
    rw [List.length_map] at hql
    exact once_scan w p h.inv.2.1 h.inv.1 hrl hq (by omega) hne n3 n4 (fun y hy => by have := (H.good y hy).2.1; have := H.tl; have := H.wl; omega) (by omega) (by omega)
/-- What Step does. -/
def StepP (w : World) (B : Nat) (S : Nat → Prop) (Q : Nat) (f : CoF) (roots : List Int) (x : Option (Sc × Nat)) (r : Ending) (w' : World) : Prop := match x with
  | some (s', c') => r = .returned (.tuple #[.bool (doneS (roots.map rootP) s'), .int .i64 0]) ∧ Kept S w w' ∧ ∃ (S' : Nat → Prop) (xw' : Value), CoAt w' B S' Q f roots xw' s' c' false ∧ ∀ k, S' k → S k ∨ w.heap.size ≤ k
  | none => r = .returned (.tuple #[.bool false, .int .i64 6]) ∧ Kept S w w' ∧ ∃ (S' : Nat → Prop) (xw' : Value) (s' : Sc) (c' : Nat), CoAt w' B S' Q f roots xw' s' c' true ∧ ∀ k, S' k → S k ∨ w.heap.size ≤ k
theorem CoAt.fill {w : World} {n : Int} (p : CoAt w B S Q f roots xw s n false) : Kept S w (w.setCell ⟨Q, 5, none⟩ (.bool true)) ∧ CoAt (w.setCell ⟨Q, 5, none⟩ (.bool true)) B S Q f roots xw s n true := by
  have K2 := Kept.set w Q 5 (.bool true)
  have SQ : S Q := p.inc Q (by simp)
  have s2 := K2.size
  have q4 := p.CQ
  refine ⟨K2.more fun k e => by rw [e]; exact SQ, ⟨?_, ?_, ?_, ?_, p.CQ, p.ne, p.neR, fun k h => by have := p.own k h; omega, p.inc⟩⟩
  · exact p.cy.kept K2 (fun j hj => by omega)
  · exact p.blk.set 5 (.bool true)
  · exact K2.ow p.rr (fun k hk e => p.neR (e ▸ hk))
  · exact K2.ow p.ww (fun k hk e => (p.ne k hk).1 e)
theorem step_full (w : World) (n : Int) {c : Int} (p : CoAt w B S Q f roots xw s c true) : Calls Try.prog 15 #[.pointer (some ⟨Q, 0, none⟩), .int .i64 n] w (RetP (.tuple #[.bool false, .int .i64 6]) w) := by
  obtain ⟨c0, c1, c2, c3, c4, c5⟩ := p.blk.six
  clear p
  go_enter Try.func15, Try.ntmps15
  go_wp2_with fail
  go_ret2
  exact ⟨rfl, Below.refl _ _⟩
set_option maxHeartbeats 4000000
set_option maxRecDepth 100000
theorem step_c (w : World) (c : Nat) (H : Heap ws l f.b f.t) (hR : RootsOk l roots) (p : CoAt w B S Q f roots xw s c false) (h : SI ws l f.b f.t m (roots.map rootP) s) (n : Int) (hn : n ≤ 9223372036854775807) (hc : c + measS m (roots.map rootP) s ≤ 1000000) :
    Calls Try.prog 15 #[.pointer (some ⟨Q, 0, none⟩), .int .i64 n] w (StepP w B S Q f roots (goS (roots.map rootP) n.toNat s c)) := by
  have HH := Lib.hid H
  have HR := Lib.hid hR
  obtain ⟨c0, c1, c2, c3, c4, c5⟩ := p.blk.six
  obtain ⟨R, hRe⟩ : ∃ R, R = goS (roots.map rootP) n.toNat s c := ⟨_, rfl⟩
  rw [← hRe]
  have HS := Lib.hid (show ∃ (S' : Nat → Prop) (xw' : Value) (s' : Sc) (c' : Nat), CoAt w B S' Q f roots xw' s' c' false ∧ SI ws l f.b f.t m (roots.map rootP) s' ∧ Kept S w w ∧ (∀ k, S' k → S k ∨ w.heap.size ≤ k) ∧ c' + measS m (roots.map rootP) s' ≤ 1000000 ∧ goS (roots.map rootP) (n.toNat - 0) s' c' = R from ⟨S, xw, s, c, p, h, Kept.refl _ _, fun _ h => .inl h, hc, hRe.symm⟩)
  clear hc h hR H p hRe
  go_enter Try.func15, Try.ntmps15
  go_wp2_with fail
  go_loopw [6] (fun x W => ∃ k : Nat, x = .int .i64 k ∧ k ≤ n.toNat ∧ Hid (∃ (S' : Nat → Prop) (xw' : Value) (s' : Sc) (c' : Nat), CoAt W B S' Q f roots xw' s' c' false ∧ SI ws l f.b f.t m (roots.map rootP) s' ∧ Kept S w W ∧ (∀ k, S' k → S k ∨ w.heap.size ≤ k) ∧ c' + measS m (roots.map rootP) s' ≤ 1000000 ∧ goS (roots.map rootP) (n.toNat - k) s' c' = R)) (fun x _ => n.toNat - (Go.RowKit.intOf x).toNat)
  case atStart => exact ⟨0, rfl, Nat.zero_le _, HS⟩
  case round =>
    obtain ⟨k, rfl, hk, hS⟩ := hrel
    obtain ⟨S', xw', s', c', e1, e2, e3, e4, e5, e6⟩ := hS.out
    have hql := e2.qs
    rw [List.length_map] at hql
    have HD := Lib.hid (fun W (hb : Below wr.heap.size wr W) => done_c W (e1.below hb) HR.out.2 (by have := HR.out.2; omega))
    have hdd : decide (s'.qs.length = roots.length ∧ s'.sc = s'.c.top) = doneS (roots.map rootP) s' := by unfold doneS; rw [List.length_map]
    rw [hdd] at HD
    clear c0 c1 c2 c3 c4 c5 HS
    have HE := Lib.hid (And.intro e1 (And.intro e2 (And.intro e3 e4)))
    obtain ⟨c0, c1, c2, c3, c4, c5⟩ := e1.blk.six
    by_cases hlt : (k : Int) < n
    · obtain ⟨j, hj⟩ : ∃ j, n.toNat - k = j + 1 := ⟨n.toNat - k - 1, by omega⟩
      rw [hj] at e6
      unfold goS at e6
      cases hb : doneS (roots.map rootP) s' with
      | true =>
        rw [hb] at HD e6
        have hR : R = some (s', c') := e6.symm.trans (if_pos rfl)
        have HRe := Lib.hid (And.intro hR hb)
        clear hS e1 e2 e3 e4 e5 e6 hql hdd hj hR hb
        go_wp2_with fail
        refine Calls.mono (HD.out wr (Below.refl _ _)) ?_
        rintro r w6 ⟨rfl, b6⟩
        have H6 := Lib.hid b6
        clear b6 c0 c1 c2 c3 c4 c5
        go_wp2_with fail
        refine Calls.mono (HD.out w6 H6.out) ?_
        rintro r w7 ⟨rfl, b7⟩
        have H7 := Lib.hid (H6.out.trans (b7.mono H6.out.size))
        clear b7
        go_wp2_with fail
        go_ret2
        rw [HRe.out.1]
        exact ⟨by rw [HRe.out.2]; rfl, HE.out.2.2.1.trans (Kept.of_below H7.out _), _, _, HE.out.1.below H7.out, HE.out.2.2.2⟩
      | false =>
        rw [hb] at HD e6
        have HO := Lib.hid (fun W (hB : Below wr.heap.size wr W) => once_c W c' HH.out HR.out (e1.below hB) e2 hb (by omega))
        cases ho : onceS (roots.map rootP) s' with
        | none =>
          rw [ho] at HO e6
          have HRe := Lib.hid (show R = none from e6.symm.trans (if_neg (by simp)))
          have HOn := Lib.hid (show ∀ W, Below wr.heap.size wr W → Calls Try.prog 42 #[.pointer (some ⟨Q, 0, none⟩)] W (fun r w' => r = .returned (.int .i64 6) ∧ Kept S' W w' ∧ ∃ s', CoAt w' B S' Q f roots xw' s' c' false) from HO.out)
          clear hS e1 e2 e3 e4 e5 e6 hql hdd hj hb HO ho
          go_wp2_with fail
          refine Calls.mono (HD.out wr (Below.refl _ _)) ?_
          rintro r w6 ⟨rfl, b6⟩
          have H6 := Lib.hid b6
          clear b6 c0 c1 c2 c3 c4 c5
          go_wp2_with fail
          refine Calls.mono (HOn.out w6 H6.out) ?_
          rintro r w7 ⟨rfl, k7, s7, p7⟩
          have H7 := Lib.hid (And.intro k7 p7)
          obtain ⟨c0, c1, c2, c3, c4, c5⟩ := p7.blk.six
          have cf := p7.blk.free 5
          have hQ7 := p7.blk.lt
          clear k7 p7
          go_wp2_with fail
          go_ret2
          rw [HRe.out]
          obtain ⟨x1, x2⟩ := H7.out.2.fill
          exact ⟨rfl, (HE.out.2.2.1.trans (Kept.of_below H6.out _)).transF (H7.out.1.trans x1) HE.out.2.2.2, _, _, _, _, x2, HE.out.2.2.2⟩
        | some s2 =>
          rw [ho] at HO e6
          have e6 : goS (roots.map rootP) j s2 (c' + 1) = R := (if_neg (by simp)).symm.trans e6
          obtain ⟨i1, i2⟩ := e2.once HH.out HR.out.ps hb ho
          have HNx := Lib.hid (And.intro i1 (And.intro (show (c' + 1) + measS m (roots.map rootP) s2 ≤ 1000000 by omega) (show goS (roots.map rootP) (n.toNat - (k + 1)) s2 (c' + 1) = R by rw [show n.toNat - (k + 1) = j by omega]; exact e6)))
          have HOn := Lib.hid (show ∀ W, Below wr.heap.size wr W → Calls Try.prog 42 #[.pointer (some ⟨Q, 0, none⟩)] W (fun r w' => r = .returned (.int .i64 0) ∧ Kept S' W w' ∧ ∃ (S2 : Nat → Prop) (xw2 : Value), CoAt w' B S2 Q f roots xw2 s2 ((c' + 1 : Nat) : Int) false ∧ ∀ k, S2 k → S' k ∨ W.heap.size ≤ k) from HO.out)
          clear hS e1 e2 e3 e4 e5 e6 hql hdd hj hb HO ho i1 i2
          go_wp2_with fail
          refine Calls.mono (HD.out wr (Below.refl _ _)) ?_
          rintro r w6 ⟨rfl, b6⟩
          have H6 := Lib.hid b6
          clear b6 c0 c1 c2 c3 c4 c5
          go_wp2_with fail
          refine Calls.mono (HOn.out w6 H6.out) ?_
          rintro r w7 ⟨rfl, k7, S2, xw2, p7, n7⟩
          have hks := (HE.out.2.2.1.trans (Kept.of_below H6.out _)).size
          have H7 := Lib.hid (show ∃ (S' : Nat → Prop) (xw' : Value) (s' : Sc) (c' : Nat), CoAt w7 B S' Q f roots xw' s' c' false ∧ SI ws l f.b f.t m (roots.map rootP) s' ∧ Kept S w w7 ∧ (∀ k, S' k → S k ∨ w.heap.size ≤ k) ∧ c' + measS m (roots.map rootP) s' ≤ 1000000 ∧ goS (roots.map rootP) (n.toNat - (k + 1)) s' c' = R from
            ⟨S2, xw2, s2, c' + 1, p7, HNx.out.1, (HE.out.2.2.1.trans (Kept.of_below H6.out _)).transF k7 HE.out.2.2.2, fun i hi => (n7 i hi).elim (HE.out.2.2.2 i) (fun h => .inr (Nat.le_trans hks h)), HNx.out.2.1, HNx.out.2.2⟩)
          clear k7 p7 n7 hks
          have hk2 : k + 1 ≤ n.toNat := by omega
          have hk3 : (k : Int) + 1 ≤ 9223372036854775807 := by omega
          go_wp2_with fail
          go_roundw
          case rel => first | exact ⟨k + 1, by go_num, hk2, H7⟩ | ((repeat apply Exists.intro); refine ⟨?_, rfl⟩; exact ⟨k + 1, by go_num, hk2, H7⟩)
          case measure => simp [Go.RowKit.intOf]; omega
    · have hz : n.toNat - k = 0 := by omega
      rw [hz] at e6
      have HRe := Lib.hid (show R = some (s', c') from e6.symm)
      clear hS e1 e2 e3 e4 e5 e6 hql hdd hz
      go_wp2_with fail
      refine Calls.mono (HD.out wr (Below.refl _ _)) ?_
      rintro r w7 ⟨rfl, b7⟩
      have H7 := Lib.hid b7
      clear b7 c0 c1 c2 c3 c4 c5
      go_wp2_with fail
      go_ret2
      rw [HRe.out]
      exact ⟨rfl, HE.out.2.2.1.trans (Kept.of_below H7.out _), _, _, HE.out.1.below H7.out, HE.out.2.2.2⟩
end
end Go.Proofs.Ytbanbpphadgoiaa
/- What codec.Enc writes: its bytes behind what it holds. Conditions: lengths. -/
namespace Go.Proofs.Ytbanbpphadgoiaa
set_option linter.unusedVariables false
set_option linter.unusedSimpArgs false
open Go.RowKit
/-- Block g holds a row of the call's own, v, of the bytes bs. -/
structure EncAt (w : World) (B g : Nat) (v : Value) (bs : List (BitVec 8)) : Prop where
  blk : Bk w g 92 #[v]
  ge : B ≤ g
  row : Ow b8 5 w B v bs
  ne : v.ownBlock ≠ some g
/-- Of what was there block g and the row v alone may have turned; the row is what it was, or new. -/
structure Moved (w w' : World) (g : Nat) (v v' : Value) : Prop where
  os : w'.os = w.os
  tape : w'.tape = w.tape
  output : w'.output = w.output
  size : w.heap.size ≤ w'.heap.size
  block : ∀ k, k < w.heap.size → k ≠ g → v.ownBlock ≠ some k → w'.heap[k]? = w.heap[k]?
  own : v'.ownBlock = v.ownBlock ∨ ∀ k, v'.ownBlock = some k → w.heap.size ≤ k
theorem Moved.refl (w : World) (g : Nat) (v : Value) : Moved w w g v v := ⟨rfl, rfl, rfl, Nat.le_refl _, fun _ _ _ _ => rfl, .inl rfl⟩
theorem Moved.trans {a b c : World} {g : Nat} {u v x : Value} (h : Moved a b g u v) (k : Moved b c g v x) : Moved a c g u x :=
  ⟨k.os.trans h.os, k.tape.trans h.tape, k.output.trans h.output, Nat.le_trans h.size k.size, fun i hi h1 h2 => by
    rw [k.block i (Nat.lt_of_lt_of_le hi h.size) h1 ?_, h.block i hi h1 h2]
    rcases h.own with e | e
    · rw [e]; exact h2
    · intro h3
      have := e i h3
      omega, by
    rcases k.own with e | e
    · rcases h.own with e2 | e2
      · left; rw [e, e2]
      · right; intro i hi; rw [e] at hi; exact e2 i hi
    · right; intro i hi; exact Nat.le_trans h.size (e i hi)⟩
theorem Moved.below {w w' : World} {B g : Nat} {v v' : Value} {bs : List (BitVec 8)} (h : Moved w w' g v v') (e : EncAt w B g v bs) : Below B w w' :=
  ⟨h.os, h.tape, h.output, h.size, fun k hk => by
    rcases Nat.lt_or_ge k w.heap.size with hl | hl
    · refine h.block k hl (fun e2 => by have := e.ge; omega) (fun e2 => ?_)
      have := (e.row.lt k e2).1
      omega
    · have := e.blk.lt
      have := e.ge
      omega⟩
theorem Moved.drew {w w' : World} {g : Nat} {v v' : Value} (h : Moved w w' g v v') : Moved w w'.drew g v v' := ⟨h.os, h.tape, h.output, h.size, h.block, h.own⟩
theorem ow_slice {α : Type} {f : α → Value} {E : TypeId} {w : World} {base : Nat} {v : Value} {xs : List α} (h : Ow f E w base v xs) : ∃ A n c, v = .slice A n c := by
  obtain ⟨A, c, e, _⟩ := h.form
  exact ⟨A, _, c, e⟩
theorem bkGrown {w w' : World} {g : Nat} {E : TypeId} {cs : Array Value} {row : Option Nat} (h : Bk w g E cs) (hg : w.grownBy w' row) (hne : some g ≠ row) : Bk w' g E cs := (hg.block g h.lt hne).trans h
theorem enc_step {wr w4 : World} {B g : Nat} {v v' : Value} {xs ys : List (BitVec 8)} {o : Obj} (h : EncAt wr B g v xs) (ho : Ow b8 5 w4 B v' (xs ++ ys)) (hg : (wr.alloc o).grownBy w4 v.ownBlock)
    (hv : v'.ownBlock = v.ownBlock ∨ v'.ownBlock = some (wr.alloc o).heap.size) : EncAt (w4.setCell ⟨g, 0, none⟩ v') B g v' (xs ++ ys) ∧ Moved wr (w4.setCell ⟨g, 0, none⟩ v') g v v' := by
  have hgl := h.blk.lt
  have hb4 : Bk w4 g 92 #[v] := bkGrown (h.blk.alloc o) hg (fun e => h.ne e.symm)
  have hne : v'.ownBlock ≠ some g := by
    rcases hv with e | e
    · rw [e]; exact h.ne
    · rw [e]; intro h2; injection h2 with h2; simp at h2; omega
  refine ⟨⟨hb4.set 0 v', h.ge, ?_, hne⟩, ?_⟩
  · obtain ⟨h1, h2⟩ := ho
    refine ⟨h1, ?_⟩
    rcases h2 with h2 | ⟨g', cap, cur, e, hB, hh, r⟩
    · exact .inl h2
    · refine .inr ⟨g', cap, cur, e, hB, ?_, r⟩
      rw [Below.heap_setCell]
      · exact hh
      · intro e2
        subst e2
        exact hne (by rw [e]; rfl)
  · refine ⟨hg.os, hg.tape, hg.output, ?_, ?_, ?_⟩
    · have := hg.size
      simp at this ⊢
      omega
    · intro k hk h1 h2
      rw [Below.heap_setCell _ _ _ _ h1, hg.block k (by simp; omega) (fun e => h2 e.symm), Below.heap_alloc _ _ _ hk]
    · rcases hv with e | e
      · exact .inl e
      · right; intro k hk; rw [e] at hk; injection hk with hk; simp at hk; omega
def uintF : Nat → BitVec 64 → List (BitVec 8)
  | 0, v => [v.setWidth 8]
  | n + 1, v => if v.toNat < 128 then [v.setWidth 8] else (v.setWidth 8 ||| 128#8) :: uintF n (v >>> 7)
def uintL (v : BitVec 64) : List (BitVec 8) := uintF 9 v
theorem uintF_len (n : Nat) : ∀ v, (uintF n v).length ≤ n + 1 := by
  induction n with
  | zero => intro v; simp [uintF]
  | succ n ih =>
    intro v
    unfold uintF
    split
    · simp
    · have := ih (v >>> 7)
      simp; omega
theorem uintF_small {n : Nat} {v : BitVec 64} (h : v.toNat < 128) : uintF n v = [v.setWidth 8] := by
  cases n with
  | zero => rfl
  | succ n => unfold uintF; rw [if_pos h]
theorem or128 (x : BitVec 8) : bits .or .u8 (U8 x) 128 = U8 (x ||| 128#8) := by
  rw [show (128 : Int) = U8 128#8 from by decide +kernel, orU8]
theorem shr7 (x : BitVec 64) : U64 x / (128 : Int) = U64 (x >>> 7) := by
  have h := shrU64 x 7
  rw [← h]; rfl
def EncP (B g : Nat) (v : Value) (bs : List (BitVec 8)) (w : World) (e : Ending) (w' : World) : Prop := e = .returned (.tuple #[]) ∧ ∃ v', EncAt w' B g v' bs ∧ Moved w w' g v v'
set_option maxHeartbeats 400000
set_option maxRecDepth 100000
theorem enc_uint (w : World) (B g : Nat) (v : Value) (bs : List (BitVec 8)) (x : BitVec 64) (h : EncAt w B g v bs) (hl : bs.length ≤ 1073741824) :
    Calls Try.prog 43 #[.pointer (some ⟨g, 0, none⟩), .int .u64 (U64 x)] w (EncP B g v (bs ++ uintL x) w) := by
  go_enter Try.func43, Try.ntmps43
  go_wp2
  go_loopw [1] (fun c wr => ∃ (n : Nat) (pre : List (BitVec 8)) (cur : BitVec 64) (v' : Value), c = .int .u64 (U64 cur) ∧ Hid (uintL x = pre ++ uintF n cur) ∧ Hid (cur.toNat < 2 ^ (7 * n + 1)) ∧ Hid (pre.length + n = 9) ∧ EncAt wr B g v' (bs ++ pre) ∧ Moved w wr g v v') (fun c _ => (Go.RowKit.intOf c).toNat)
  case atStart => exact ⟨9, [], x, v, rfl, Lib.hid rfl, Lib.hid (by have := x.isLt; omega), Lib.hid rfl, by rw [List.append_nil]; exact h, Moved.refl _ _ _⟩
  case round =>
    obtain ⟨n, pre, cur, v', rfl, h1, h2, h3, he, hm⟩ := hrel
    have hcell := he.blk.cell 0
    have hfree := he.blk.free 0
    have hgl := he.blk.lt
    have e0 := u64_u8m cur
    by_cases hc : cur.toNat < 128
    · have t1 : decide (128 ≤ U64 cur) = false := by unfold U64; simp; omega
      have hend : uintL x = pre ++ [cur.setWidth 8] := by rw [h1.out, uintF_small hc]
      have HE := Lib.hid hend
      have hlen : pre.length ≤ 9 := by have := h3.out; omega
      clear hend hc
      go_wp2_with (at_builtin; refine wp_app one8 b8_one rfl (.tmp 24) (.tmp 27) rfl B v' (bs ++ pre) rfl (he.row.alloc _) (some ⟨wr.heap.size, 0, none⟩) 1 1 [cur.setWidth 8] rfl rfl (wr.heap.size + 1) (rd1_new rfl) (by simp; omega) (by decide) (by have := he.ge; simp; omega) ?_; intro v4 w4 ho4 hb4 hg4 hv4; obtain ⟨A4, n4, c4, rfl⟩ := ow_slice ho4; have hk4 := bkGrown (he.blk.alloc _) hg4 (fun e => he.ne e.symm); have hc4 := hk4.cell 0; have hf4 := hk4.free 0; have hl4 := hk4.lt)
      go_end0
      obtain ⟨s1, s2⟩ := enc_step he ho4 hg4 hv4
      exact ⟨rfl, _, by rw [HE.out, ← List.append_assoc]; exact s1, hm.trans s2⟩
    · have t1 : decide (128 ≤ U64 cur) = true := by unfold U64; simp; omega
      have e1 := or128 (cur.setWidth 8)
      have e2 := shr7 cur
      obtain ⟨m, rfl⟩ : ∃ m, n = m + 1 := by
        cases n with
        | zero => have := h2.out; simp at this; omega
        | succ m => exact ⟨m, rfl⟩
      have HS : Hid (uintL x = (pre ++ [cur.setWidth 8 ||| 128#8]) ++ uintF m (cur >>> 7)) := Lib.hid (by
        have e : uintF (m + 1) cur = (cur.setWidth 8 ||| 128#8) :: uintF m (cur >>> 7) := if_neg hc
        rw [h1.out, List.append_assoc, e]; rfl)
      have HB : Hid ((cur >>> 7).toNat < 2 ^ (7 * m + 1)) := Lib.hid (by
        have := h2.out
        rw [BitVec.toNat_ushiftRight, Nat.shiftRight_eq_div_pow]
        rw [show 7 * (m + 1) + 1 = (7 * m + 1) + 7 from by omega, Nat.pow_add] at this
        exact Nat.div_lt_of_lt_mul (by omega))
      have HL : Hid ((pre ++ [cur.setWidth 8 ||| 128#8]).length + m = 9) := Lib.hid (by have := h3.out; simp; omega)
      have HM : Hid ((U64 (cur >>> 7)).toNat < (U64 cur).toNat) := Lib.hid (by
        unfold U64
        rw [BitVec.toNat_ushiftRight, Nat.shiftRight_eq_div_pow]
        simp; omega)
      have hlen : pre.length ≤ 9 := by have := h3.out; omega
      clear hc
      go_wp2_with (at_builtin; refine wp_app one8 b8_one rfl (.tmp 10) (.tmp 14) rfl B v' (bs ++ pre) rfl (he.row.alloc _) (some ⟨wr.heap.size, 0, none⟩) 1 1 [cur.setWidth 8 ||| 128#8] rfl rfl (wr.heap.size + 1) (rd1_new rfl) (by simp; omega) (by decide) (by have := he.ge; simp; omega) ?_; intro v4 w4 ho4 hb4 hg4 hv4; obtain ⟨A4, n4, c4, rfl⟩ := ow_slice ho4; have hk4 := bkGrown (he.blk.alloc _) hg4 (fun e => he.ne e.symm); have hc4 := hk4.cell 0; have hf4 := hk4.free 0; have hl4 := hk4.lt)
      obtain ⟨s1, s2⟩ := enc_step he ho4 hg4 hv4
      go_roundw
      case rel => exact ⟨m, pre ++ [cur.setWidth 8 ||| 128#8], cur >>> 7, _, rfl, HS, HB, HL, by rw [← List.append_assoc]; exact s1, hm.trans s2⟩
      case measure => simp only [Go.RowKit.intOf]; exact HM.out
end Go.Proofs.Ytbanbpphadgoiaa
/- What codec.Enc's Int, Raw, Words, Bytes do. Conditions: lengths. -/
namespace Go.Proofs.Ytbanbpphadgoiaa
set_option linter.unusedVariables false
set_option linter.unusedSimpArgs false
open Go.RowKit
def zigL (x : BitVec 64) : BitVec 64 := (x <<< 1) ^^^ (x.sshiftRight 63)
attribute [local go_sem] i64_u64 shlU64 sarI64 xorU64
set_option maxHeartbeats 400000
set_option maxRecDepth 100000
end Go.Proofs.Ytbanbpphadgoiaa
/- What codec.Enc's Words does. Conditions: lengths. -/
namespace Go.Proofs.Ytbanbpphadgoiaa
set_option linter.unusedVariables false
set_option linter.unusedSimpArgs false
open Go.RowKit
def u64w (x : BitVec 64) : Value := .int .u64 (U64 x)
def wordsL (ws : List (BitVec 64)) : List (BitVec 8) := uintL (BitVec.ofNat 64 ws.length) ++ (ws.map fun x => lowN x 8).flatten
set_option maxHeartbeats 800000
set_option maxRecDepth 100000
end Go.Proofs.Ytbanbpphadgoiaa
/- What turns one block alone. No conditions. -/
namespace Go.Proofs.Ytbanbpphadgoiaa
set_option linter.unusedVariables false
set_option linter.unusedSimpArgs false
open Go.RowKit
/-- Of what was there block g alone may have turned. -/
structure Only (w w' : World) (g : Nat) : Prop where
  os : w'.os = w.os
  tape : w'.tape = w.tape
  output : w'.output = w.output
  size : w.heap.size ≤ w'.heap.size
  block : ∀ k, k < w.heap.size → k ≠ g → w'.heap[k]? = w.heap[k]?
theorem Only.refl (w : World) (g : Nat) : Only w w g := ⟨rfl, rfl, rfl, Nat.le_refl _, fun _ _ _ => rfl⟩
theorem Only.trans {a b c : World} {g : Nat} (h : Only a b g) (k : Only b c g) : Only a c g :=
  ⟨k.os.trans h.os, k.tape.trans h.tape, k.output.trans h.output, Nat.le_trans h.size k.size, fun i hi h1 => (k.block i (Nat.lt_of_lt_of_le hi h.size) h1).trans (h.block i hi h1)⟩
theorem Only.of {a b : World} {g : Nat} (h : Below a.heap.size a b) : Only a b g := ⟨h.os, h.tape, h.output, h.size, fun k hk _ => h.block k hk⟩
theorem Only.set (w : World) (g i : Nat) (u : Value) : Only w (w.setCell ⟨g, i, none⟩ u) g := ⟨rfl, rfl, rfl, by simp [World.setCell], fun k _ hne => Below.heap_setCell _ _ _ _ hne⟩
theorem Only.drew {a b : World} {g : Nat} (h : Only a b g) : Only a b.drew g := ⟨h.os, h.tape, h.output, h.size, h.block⟩
theorem Only.below {a b : World} {g B : Nat} (h : Only a b g) (hB : B ≤ g) (hs : g < a.heap.size) : Below B a b := ⟨h.os, h.tape, h.output, h.size, fun k hk => h.block k (by omega) (by omega)⟩
theorem Rd.only {α : Type} {f : α → Value} {w w' : World} {g : Nat} {A : Option Addr} {xs : List α} (h : Rd f w w.heap.size A xs) (hm : Only w w' g) (hap : ∀ a, A = some a → a.block ≠ g) : Rd f w' w'.heap.size A xs := fun j hj => by
  obtain ⟨ad, e, hb, hc⟩ := h j hj
  refine ⟨ad, e, Nat.lt_of_lt_of_le hb hm.size, ?_⟩
  rw [← hc]
  exact World.cell?_of_block (by rw [add_block]; exact hm.block _ hb (hap ad e))
end Go.Proofs.Ytbanbpphadgoiaa
/- bytes.Clone, and what codec.Of makes. Conditions: lengths. -/
namespace Go.Proofs.Ytbanbpphadgoiaa
set_option linter.unusedVariables false
set_option linter.unusedSimpArgs false
open Go.RowKit
theorem ow_addr {α : Type} {f : α → Value} {E : TypeId} {w : World} {base n c : Nat} {A : Option Addr} {xs : List α} (h : Ow f E w base (.slice A n c) xs) : ∀ a, A = some a → base ≤ a.block ∧ a.block < w.heap.size := by
  rintro a rfl
  rcases h.2 with ⟨e, _⟩ | ⟨g, cap, cur, e, hB, hh, _⟩
  · cases e
  · injection e with e1
    injection e1 with e1
    subst e1
    refine ⟨hB, ?_⟩
    rcases Nat.lt_or_ge g w.heap.size with hl | hl
    · exact hl
    · rw [Array.getElem?_eq_none hl] at hh; cases hh
def CloneP (bs : List (BitVec 8)) (w : World) (e : Ending) (w' : World) : Prop := ∃ A c, e = .returned (.slice A bs.length c) ∧ bs.length ≤ c ∧ Rd b8 w' w'.heap.size A bs ∧ Below w.heap.size w w' ∧ ∀ a, A = some a → w.heap.size ≤ a.block ∧ a.block < w'.heap.size
set_option maxHeartbeats 400000
set_option maxRecDepth 100000
theorem clone_c (bs : List (BitVec 8)) (A : Option Addr) (c : Nat) (w : World) (hr : Rd b8 w w.heap.size A bs) (hl : bs.length ≤ 1073741824) : Calls Try.prog 72 #[.slice A bs.length c] w (CloneP bs w) := by
  have hn := fun (a : Option Addr) (n c : Nat) (W : World) => Lib.run_eql_slice_nil (P := Try.prog) W 44 5 a n c 0 0 (by kernel_rfl)
  rcases A with _ | ad
  · have hb : bs = [] := by
      cases bs with
      | nil => rfl
      | cons x xs => obtain ⟨ad, e, _⟩ := hr 0 (by simp); cases e
    subst hb
    go_enter Try.func72, Try.ntmps72
    go_wp2
    go_ret
    exact ⟨none, 0, rfl, Nat.le_refl _, Rd.nil, (by repeat (first | with_reducible assumption | with_reducible exact Below.refl _ _ | with_reducible apply bdN | with_reducible apply Below.drew | with_reducible refine Below.alloc ?_ (by simp) _ | with_reducible refine Below.setCell ?_ (by simp) _)), fun a e => by cases e⟩
  · go_enter Try.func72, Try.ntmps72
    go_wp2_with (at_builtin; refine wp_app one8 b8_one rfl (.tmp 5) (.tmp 6) rfl w.heap.size _ [] rfl (ow_empty b8 5 w w.heap.size (Nat.le_refl _)) (some ad) bs.length c bs rfl rfl w.heap.size (hr.alloc (Nat.le_refl _) _) (by simp; omega) (by decide) (by simp) ?_; intro v4 w4 ho4 hb4 hg4 hv4)
    rw [List.nil_append] at ho4
    obtain ⟨A4, c4, rfl, hc4⟩ := ho4.form
    go_ret
    exact ⟨A4, c4, rfl, hc4, ho4.rd, (Gw.alloc w _).trans hb4, ow_addr ho4⟩
/-- Block g holds a reader of the bytes bs, in another block, with an error's number. -/
structure DecAt (w : World) (g : Nat) (bs : List (BitVec 8)) (err : Int) : Prop where
  ex : ∃ A c, Bk w g 123 #[.slice A bs.length c, .int .i64 err] ∧ bs.length ≤ c ∧ Rd b8 w w.heap.size A bs ∧ ∀ a, A = some a → a.block ≠ g
theorem of_c (bs : List (BitVec 8)) (A : Option Addr) (c : Nat) (w : World) (hr : Rd b8 w w.heap.size A bs) (hl : bs.length ≤ 1073741824) :
    Calls Try.prog 38 #[.slice A bs.length c] w fun e w' => ∃ g, e = .returned (.pointer (some ⟨g, 0, none⟩)) ∧ w.heap.size ≤ g ∧ g < w'.heap.size ∧ DecAt w' g bs 0 ∧ Below w.heap.size w w' := by
  have HC := Lib.hid (clone_c bs A c w hr hl)
  go_enter Try.func38, Try.ntmps38
  go_wp2_with fail
  refine Calls.mono HC.out ?_
  rintro e w1 ⟨A1, c1, rfl, hc1, hr1, hb1, ha1⟩
  go_wp2_with fail
  go_ret
  refine ⟨_, rfl, hb1.size, by simp, ⟨A1, c1, Bk.new w1 123 _, hc1, (hr1.alloc (Nat.le_refl _) _).more (by simp), fun a e => by have := (ha1 a e).2; omega⟩, hb1.trans ((Gw.alloc w1 _).mono hb1.size)⟩
end Go.Proofs.Ytbanbpphadgoiaa
/- What codec.Dec's Uint reads. Conditions: lengths. -/
namespace Go.Proofs.Ytbanbpphadgoiaa
set_option linter.unusedVariables false
set_option linter.unusedSimpArgs false
open Go.RowKit
/-- What is read: an error's number, or a number and the rest. -/
def decF : Nat → BitVec 64 → List (BitVec 8) → Sum Int (BitVec 64 × List (BitVec 8))
  | _, _, [] => .inl 3
  | k, v, x :: xs => if (k ≠ 0 ∧ x = 0#8) ∨ (k = 9 ∧ 1 < x.toNat) then .inl 2 else
      if x.toNat < 128 then .inr (v ||| ((x &&& ~~~ 128#8).setWidth 64 <<< (7 * k)), xs) else decF (k + 1) (v ||| ((x &&& ~~~ 128#8).setWidth 64 <<< (7 * k))) xs
/-- What a call of fail leaves. -/
theorem fail_c (w : World) (g : Nat) (bs : List (BitVec 8)) (err e : Int) (h : DecAt w g bs err) :
    Calls Try.prog 73 #[.pointer (some ⟨g, 0, none⟩), .int .i64 e] w fun r w' => r = .returned (.tuple #[]) ∧ DecAt w' g [] e ∧ Only w w' g := by
  obtain ⟨A, c, hk, hc, hr, ha⟩ := h.ex
  obtain ⟨c1, c2⟩ := hk.two
  have f1 := hk.free 0
  have f2 := hk.free 1
  have hl := hk.lt
  have hk2 := (hk.set 0 (.slice none 0 0)).set 1 (.int .i64 e)
  have ho := (Only.set w g 0 (.slice none 0 0)).trans (Only.set _ g 1 (.int .i64 e))
  go_enter Try.func73, Try.ntmps73
  go_wp2_with fail
  go_end0
  exact ⟨rfl, ⟨none, 0, hk2, Nat.le_refl _, Rd.nil, fun a e => by cases e⟩, ho⟩
def DecP (g : Nat) (r : Sum Int (BitVec 64 × List (BitVec 8))) (w : World) (e : Ending) (w' : World) : Prop := match r with
  | .inl err => e = .returned (.int .u64 0) ∧ DecAt w' g [] err ∧ Only w w' g
  | .inr (v, rest) => e = .returned (.int .u64 (U64 v)) ∧ DecAt w' g rest 0 ∧ Only w w' g
theorem andNot128 (x : BitVec 8) : bits .andNot .u8 (U8 x) 128 = U8 (x &&& ~~~ 128#8) := by
  rw [show (128 : Int) = U8 128#8 from by decide +kernel]
  show IntKind.u8.wrap ((BitVec.ofInt 8 (U8 x) &&& ~~~BitVec.ofInt 8 (U8 128#8)).toNat : Int) = _
  rw [ofInt_U8, ofInt_U8, wrapu8]; congr 1; rw [BitVec.ofInt_natCast, BitVec.ofNat_toNat, BitVec.setWidth_eq]
theorem dec_cut {w : World} {g c n c2 m : Nat} {A A' : Option Addr} {bs : List (BitVec 8)} {v0 : Value} {err : Int} (hk : Bk w g 123 #[v0, .int .i64 err]) (hc : bs.length ≤ c) (hr : Rd b8 w w.heap.size A bs) (ha : ∀ a, A = some a → a.block ≠ g) (hA : A' = cutA A c m) (hn : n = bs.length - m) (hc2 : c2 = c - m) :
    DecAt (w.setCell ⟨g, 0, none⟩ (.slice A' n c2)) g (bs.drop m) err ∧ Only w (w.setCell ⟨g, 0, none⟩ (.slice A' n c2)) g := by
  have hl : n = (bs.drop m).length := by rw [hn, List.length_drop]
  have ha' : ∀ a, A' = some a → a.block ≠ g := by
    intro a e
    rw [hA] at e
    unfold cutA at e
    split at e
    · exact ha a e
    · cases A with
      | none => cases e
      | some b =>
        simp only [Option.map_some, Option.some.injEq] at e
        rw [← e, add_block]
        exact ha b rfl
  have ho := Only.set w g 0 (.slice A' n c2)
  refine ⟨⟨A', c2, ?_, ?_, ?_, ha'⟩, ho⟩
  · have := hk.set 0 (.slice A' n c2)
    rw [← hl]
    exact this
  · rw [← hl]; omega
  · have h2 : Rd b8 w w.heap.size A' (bs.drop m) := by rw [hA]; exact hr.cut hc
    exact h2.only ho ha'
set_option maxHeartbeats 800000
set_option maxRecDepth 100000
theorem dec_uint (w : World) (g : Nat) (bs : List (BitVec 8)) (h : DecAt w g bs 0) (hl : bs.length ≤ 1073741824) :
    Calls Try.prog 39 #[.pointer (some ⟨g, 0, none⟩)] w (DecP g (decF 0 0#64 bs) w) := by
  have hD := h
  obtain ⟨A, c, hk, hc, hr, ha⟩ := h.ex
  obtain ⟨c1, c2⟩ := hk.two
  have hgl := hk.lt
  have f1 := hk.free 0
  have z0 : (0 : Int) = U64 0#64 := by decide +kernel
  have Z0 := Lib.hid z0
  have HA := Lib.hid ha
  clear z0 ha
  go_enter Try.func39, Try.ntmps39
  go_wp2_with fail
  go_loop [3, 17] (fun v i => ∃ (k : Nat) (u : BitVec 64), k ≤ bs.length ∧ k ≤ 9 ∧ i = .int .i64 k ∧ v = .int .u64 (U64 u) ∧ Hid (decF 0 0#64 bs = decF k u (bs.drop k))) (fun _ i => bs.length - (Go.RowKit.intOf i).toNat)
  case atStart => exact ⟨0, 0#64, by omega, by omega, rfl, by rw [← Z0.out], Lib.hid rfl⟩
  case round =>
    obtain ⟨k, u, hkl, hk9, rfl, rfl, hrel⟩ := hrel
    by_cases hlt : k < bs.length
    · obtain ⟨ad, rfl, hab, hac⟩ := hr.at_ hlt
      have hd : bs.drop k = bs[k] :: bs.drop (k + 1) := List.drop_eq_getElem_cons hlt
      obtain ⟨x, hx⟩ : ∃ x, x = bs[k] := ⟨_, rfl⟩
      rw [← hx] at hac hd
      have HD : Hid (decF 0 0#64 bs = decF k u (x :: bs.drop (k + 1))) := Lib.hid (by rw [hrel.out, hd])
      unfold b8 at hac
      clear hd hx
      have p1 : (0 : Int) ≤ (k : Int) := by omega
      have p2 : (k : Int) < (bs.length : Int) := by omega
      have q1 : 7 * (k : Int) ≤ 63 := by omega
      by_cases hbad : (k ≠ 0 ∧ x = 0#8) ∨ (k = 9 ∧ 1 < x.toNat)
      · have hres : decF 0 0#64 bs = .inl 2 := by rw [HD.out]; unfold decF; rw [if_pos hbad]
        have HRES := Lib.hid hres
        clear hres
        have e8 : (0 : Int) = U8 0#8 := by decide +kernel
        rcases hbad with ⟨h0, hx0⟩ | ⟨h9, hx1⟩
        · have t1 : decide (0 < 7 * (k : Int)) = true := by simp; omega
          have t2 : (U8 x == 0) = true := by rw [hx0]; decide +kernel
          clear e8 hx0
          go_wp2_with fail
          refine Calls.mono (fail_c _ g bs 0 2 (by assumption)) ?_
          rintro e w1 ⟨rfl, hd1, ho1⟩
          go_wp2_with fail
          go_ret
          exact HRES.out ▸ ⟨rfl, hd1, ho1⟩
        · have t3 : (7 * (k : Int) == 63) = true := by rw [beq_iff_eq]; omega
          have t4 : decide (0 < 7 * (k : Int)) = true := by simp; omega
          have t1 : decide (1 < U8 x) = true := by unfold U8; simp; omega
          have t2 : (U8 x == 0) = false := by unfold U8; simp; intro h; rw [h] at hx1; simp at hx1
          clear e8 hx1 h9
          go_wp2_with fail
          refine Calls.mono (fail_c _ g bs 0 2 (by assumption)) ?_
          rintro e w1 ⟨rfl, hd1, ho1⟩
          go_wp2_with fail
          go_ret
          exact HRES.out ▸ ⟨rfl, hd1, ho1⟩
      · have tests : (k = 0) ∨ (k = 9 ∧ (U8 x == 0) = false ∧ decide (1 < U8 x) = false) ∨ (0 < k ∧ k < 9 ∧ (U8 x == 0) = false) := by
          have n0 : k ≠ 0 → (U8 x == 0) = false := by
            intro h
            rw [beq_eq_false_iff_ne]
            intro h2
            apply hbad
            left
            exact ⟨h, U8_inj (by rw [h2]; decide +kernel)⟩
          rcases Nat.eq_zero_or_pos k with h | h
          · exact .inl h
          · right
            by_cases h9 : k = 9
            · left
              refine ⟨h9, n0 (by omega), ?_⟩
              rw [decide_eq_false_iff_not]
              intro h2
              apply hbad
              right
              refine ⟨h9, ?_⟩
              unfold U8 at h2
              omega
            · right; exact ⟨h, by omega, n0 (by omega)⟩
        have hk8 : ¬ x.toNat < 128 → k < 9 := by
          intro h
          refine Decidable.byContradiction fun h9 => hbad (.inr ⟨by omega, by omega⟩)
        have e1 := andNot128 x
        obtain ⟨y, hy⟩ : ∃ y, y = x &&& ~~~ 128#8 := ⟨_, rfl⟩
        have e2 := u8_u64 y
        obtain ⟨z, hz⟩ : ∃ z, z = (y.setWidth 64 <<< (7 * k)) := ⟨_, rfl⟩
        have e3 := shlU64 (y.setWidth 64) (7 * k)
        have e5 := wrapU64 (y.setWidth 64)
        obtain ⟨u', hu⟩ : ∃ u', u' = u ||| z := ⟨_, rfl⟩
        have e4 := orU64 u z
        have n7 : (7 * (k : Int)).toNat = 7 * k := by omega
        have w7 : IntKind.i64.wrap (7 * (k : Int)) = 7 * (k : Int) := wrapIn (by omega) (by omega)
        rw [← hy] at e1
        rw [← hz] at e3
        rw [← hu] at e4
        have HU : Hid (u ||| ((x &&& ~~~ 128#8).setWidth 64 <<< (7 * k)) = u') := Lib.hid (by rw [hu, hz, hy])
        have HBAD := Lib.hid hbad
        clear hy hz hu hbad
        by_cases hsm : x.toNat < 128
        · have t5 : decide (U8 x < 128) = true := by unfold U8; simp; omega
          have HRES : Hid (decF 0 0#64 bs = .inr (u', bs.drop (k + 1))) := Lib.hid (by
            rw [HD.out]; unfold decF; rw [if_neg HBAD.out, if_pos hsm, HU.out])
          clear hsm hk8
          rcases tests with t0 | ⟨t0, t1, t2⟩ | ⟨t0, t1, t2⟩
          · have a1 : decide (0 < 7 * (k : Int)) = false := by simp; omega
            have a3 : (7 * (k : Int) == 63) = false := by rw [beq_eq_false_iff_ne]; omega
            clear t0
            rcases (show c = k + 1 ∨ k + 1 < c by omega) with hcap | hcap
            · subst hcap
              go_wp2_with fail
              go_ret
              refine HRES.out ▸ ⟨rfl, dec_cut hk hc hr HA.out ?_ (by omega) (by omega)⟩
              unfold cutA
              rw [if_pos rfl]
            · go_wp2_with fail
              go_ret
              refine HRES.out ▸ ⟨rfl, dec_cut hk hc hr HA.out ?_ (by omega) (by omega)⟩
              unfold cutA
              rw [if_neg (by omega)]; rfl
          · have a1 : decide (0 < 7 * (k : Int)) = true := by simp; omega
            have a3 : (7 * (k : Int) == 63) = true := by rw [beq_iff_eq]; omega
            clear t0
            rcases (show c = k + 1 ∨ k + 1 < c by omega) with hcap | hcap
            · subst hcap
              go_wp2_with fail
              go_ret
              refine HRES.out ▸ ⟨rfl, dec_cut hk hc hr HA.out ?_ (by omega) (by omega)⟩
              unfold cutA
              rw [if_pos rfl]
            · go_wp2_with fail
              go_ret
              refine HRES.out ▸ ⟨rfl, dec_cut hk hc hr HA.out ?_ (by omega) (by omega)⟩
              unfold cutA
              rw [if_neg (by omega)]; rfl
          · have a1 : decide (0 < 7 * (k : Int)) = true := by simp; omega
            have a3 : (7 * (k : Int) == 63) = false := by rw [beq_eq_false_iff_ne]; omega
            clear t0
            rcases (show c = k + 1 ∨ k + 1 < c by omega) with hcap | hcap
            · subst hcap
              go_wp2_with fail
              go_ret
              refine HRES.out ▸ ⟨rfl, dec_cut hk hc hr HA.out ?_ (by omega) (by omega)⟩
              unfold cutA
              rw [if_pos rfl]
            · go_wp2_with fail
              go_ret
              refine HRES.out ▸ ⟨rfl, dec_cut hk hc hr HA.out ?_ (by omega) (by omega)⟩
              unfold cutA
              rw [if_neg (by omega)]; rfl
        · have t5 : decide (U8 x < 128) = false := by unfold U8; simp; omega
          have HREL : Hid (decF 0 0#64 bs = decF (k + 1) u' (bs.drop (k + 1))) := Lib.hid (by
            rw [HD.out]
            show (if _ then _ else _) = _
            rw [if_neg HBAD.out, if_neg hsm, HU.out])
          have hk8' := hk8 hsm
          clear hsm hk8
          rcases tests with t0 | ⟨t0, t1, t2⟩ | ⟨t0, t1, t2⟩
          · have a1 : decide (0 < 7 * (k : Int)) = false := by simp; omega
            have a3 : (7 * (k : Int) == 63) = false := by rw [beq_eq_false_iff_ne]; omega
            clear t0
            go_wp2_with fail
            go_round
            case rel => exact ⟨k + 1, u', by omega, by omega, by go_num, rfl, HREL⟩
            case measure => (first | (simp [Go.RowKit.intOf]; done) | (simp [Go.RowKit.intOf]; omega))
          · exfalso; omega
          · have a1 : decide (0 < 7 * (k : Int)) = true := by simp; omega
            have a3 : (7 * (k : Int) == 63) = false := by rw [beq_eq_false_iff_ne]; omega
            clear t0
            go_wp2_with fail
            go_round
            case rel => exact ⟨k + 1, u', by omega, by omega, by go_num, rfl, HREL⟩
            case measure => (first | (simp [Go.RowKit.intOf]; done) | (simp [Go.RowKit.intOf]; omega))
    · have hkk : k = bs.length := by omega
      have HRES : Hid (decF 0 0#64 bs = .inl 3) := Lib.hid (by
        rw [hrel.out, hkk, List.drop_length]
        cases bs.length <;> rfl)
      clear hkk
      go_wp2_with fail
      refine Calls.mono (fail_c _ g bs 0 3 (by assumption)) ?_
      rintro e w1 ⟨rfl, hd1, ho1⟩
      go_wp2_with fail
      go_ret
      exact HRES.out ▸ ⟨rfl, hd1, ho1⟩
end Go.Proofs.Ytbanbpphadgoiaa
/- What is written is what is read: numbers. What codec.Dec's Int, Left, Err answer. Conditions: lengths. -/
namespace Go.Proofs.Ytbanbpphadgoiaa
set_option linter.unusedVariables false
set_option linter.unusedSimpArgs false
open Go.RowKit
theorem low7 (cur : BitVec 64) : ((cur.setWidth 8 ||| 128#8) &&& ~~~ 128#8).setWidth 64 = cur &&& 127#64 := by
  apply BitVec.eq_of_getLsbD_eq
  intro i hi
  have e : (127#64).getLsbD i = decide (i < 7) := by
    have : ∀ j : Fin 64, (127#64).getLsbD j.val = decide (j.val < 7) := by decide +kernel
    exact this ⟨i, hi⟩
  rw [BitVec.getLsbD_and, e, BitVec.getLsbD_setWidth]
  by_cases h8 : i < 8
  · have e2 : (128#8).getLsbD i = decide (i = 7) := by
      have : ∀ j : Fin 8, (128#8).getLsbD j.val = decide (j.val = 7) := by decide +kernel
      exact this ⟨i, h8⟩
    rw [BitVec.getLsbD_and, BitVec.getLsbD_or, BitVec.getLsbD_not, e2, BitVec.getLsbD_setWidth]
    by_cases h7 : i = 7
    · simp [h7]
    · simp [h7, h8, hi, show i < 7 from by omega]
  · simp [show ¬ i < 7 from by omega, BitVec.getLsbD_of_ge _ i (show 8 ≤ i by omega)]
theorem small7 (cur : BitVec 64) (h : cur.toNat < 128) : (cur.setWidth 8 &&& ~~~ 128#8).setWidth 64 = cur ∧ (cur.setWidth 8).toNat = cur.toNat ∧ (cur.setWidth 8 = 0#8 → cur = 0#64) := by
  have : ∀ n : Fin 128, ((BitVec.ofNat 64 n.val).setWidth 8 &&& ~~~ 128#8).setWidth 64 = BitVec.ofNat 64 n.val ∧ ((BitVec.ofNat 64 n.val).setWidth 8).toNat = n.val ∧ ((BitVec.ofNat 64 n.val).setWidth 8 = 0#8 → BitVec.ofNat 64 n.val = 0#64) := by decide +kernel
  have h2 := this ⟨cur.toNat, h⟩
  simp only [BitVec.ofNat_toNat, BitVec.setWidth_eq] at h2
  exact h2
theorem or128_big (x : BitVec 8) : 128 ≤ (x ||| 128#8).toNat ∧ x ||| 128#8 ≠ 0#8 := by
  have : ∀ n : Fin 256, 128 ≤ (BitVec.ofNat 8 n.val ||| 128#8).toNat ∧ BitVec.ofNat 8 n.val ||| 128#8 ≠ 0#8 := by decide +kernel
  have h2 := this ⟨x.toNat, x.isLt⟩
  simp only [BitVec.ofNat_toNat, BitVec.setWidth_eq] at h2
  exact h2
theorem glue7 (cur : BitVec 64) (k : Nat) : ((cur &&& 127#64) <<< (7 * k)) ||| ((cur >>> 7) <<< (7 * (k + 1))) = cur <<< (7 * k) := by
  apply BitVec.eq_of_getLsbD_eq
  intro i hi
  rw [BitVec.getLsbD_or, BitVec.getLsbD_shiftLeft, BitVec.getLsbD_shiftLeft, BitVec.getLsbD_shiftLeft, BitVec.getLsbD_and, BitVec.getLsbD_ushiftRight]
  by_cases h : i < 7 * k
  · simp [h, show i < 7 * (k + 1) from by omega]
  · by_cases h2 : i < 7 * (k + 1)
    · have e : (127#64).getLsbD (i - 7 * k) = true := by
        have : ∀ j : Fin 7, (127#64).getLsbD j.val = true := by decide +kernel
        exact this ⟨i - 7 * k, by omega⟩
      simp [h, h2, hi, e]
    · have e : (127#64).getLsbD (i - 7 * k) = false := by
        have : ∀ j : Fin 64, 7 ≤ j.val → (127#64).getLsbD j.val = false := by decide +kernel
        exact this ⟨i - 7 * k, by omega⟩ (by show 7 ≤ i - 7 * k; omega)
      simp [h, h2, hi, e, show 7 + (i - 7 * (k + 1)) = i - 7 * k from by omega]
theorem decF_uintF (rest : List (BitVec 8)) : ∀ (n k : Nat) (acc cur : BitVec 64), k + n = 9 → cur.toNat < 2 ^ (7 * n + 1) → (k = 0 ∨ cur ≠ 0#64) → decF k acc (uintF n cur ++ rest) = .inr (acc ||| (cur <<< (7 * k)), rest) := by
  intro n
  induction n with
  | zero =>
    intro k acc cur hk hc h0
    have hc' : cur.toNat < 2 := by simpa using hc
    obtain ⟨s1, s2, s3⟩ := small7 cur (by omega)
    show (if _ then _ else _) = _
    rw [if_neg, if_pos (by omega), s1]; · rfl
    rintro (⟨a, b⟩ | ⟨a, b⟩)
    · rcases h0 with h0 | h0
      · exact a h0
      · exact h0 (s3 b)
    · omega
  | succ n ih =>
    intro k acc cur hk hc h0
    by_cases hs : cur.toNat < 128
    · rw [uintF_small hs]
      obtain ⟨s1, s2, s3⟩ := small7 cur hs
      show (if _ then _ else _) = _
      rw [if_neg, if_pos (by omega), s1]; · rfl
      rintro (⟨a, b⟩ | ⟨a, b⟩)
      · rcases h0 with h0 | h0
        · exact a h0
        · exact h0 (s3 b)
      · omega
    · have e : uintF (n + 1) cur = (cur.setWidth 8 ||| 128#8) :: uintF n (cur >>> 7) := if_neg hs
      obtain ⟨b1, b2⟩ := or128_big (cur.setWidth 8)
      have hsh : (cur >>> 7).toNat = cur.toNat / 128 := by rw [BitVec.toNat_ushiftRight, Nat.shiftRight_eq_div_pow]
      rw [e, List.cons_append]
      show (if _ then _ else _) = _
      rw [if_neg (by rintro (⟨_, b⟩ | ⟨a, _⟩); · exact b2 b
                     · omega), if_neg (by omega), ih (k + 1) _ _ (by omega) (by
        rw [hsh]
        rw [show 7 * (n + 1) + 1 = (7 * n + 1) + 7 from by omega, Nat.pow_add] at hc
        exact Nat.div_lt_of_lt_mul (by omega)) (.inr (by intro h; have := congrArg BitVec.toNat h; rw [hsh] at this; simp at this; omega)), low7, BitVec.or_assoc, glue7]
theorem dec_uint_back (x : BitVec 64) (rest : List (BitVec 8)) : decF 0 0#64 (uintL x ++ rest) = .inr (x, rest) := by
  have h := decF_uintF rest 9 0 0#64 x rfl (by have := x.isLt; omega) (.inl rfl)
  unfold uintL
  rw [h]
  simp
/-- Back from a number without a sign. -/
def zagL (u : BitVec 64) : BitVec 64 := (u >>> 1) ^^^ (if u.getLsbD 0 then BitVec.allOnes 64 else 0#64)
/-- What a reader's call leaves that answers a number with a sign. -/
def DecIP (g : Nat) (r : Sum Int (BitVec 64 × List (BitVec 8))) (w : World) (e : Ending) (w' : World) : Prop := match r with
  | .inl err => e = .returned (.int .i64 0) ∧ DecAt w' g [] err ∧ Only w w' g
  | .inr (v, rest) => e = .returned (.int .i64 (I64 (zagL v))) ∧ DecAt w' g rest 0 ∧ Only w w' g
set_option maxHeartbeats 400000
theorem dec_left (w : World) (g : Nat) (bs : List (BitVec 8)) (err : Int) (h : DecAt w g bs err) :
    Calls Try.prog 41 #[.pointer (some ⟨g, 0, none⟩)] w fun e w' => e = .returned (.int .i64 bs.length) ∧ w' = w := by
  obtain ⟨A, c, hk, hc, hr, ha⟩ := h.ex
  obtain ⟨c1, c2⟩ := hk.two
  clear ha
  go_enter Try.func41, Try.ntmps41
  go_wp2
  go_ret
  exact ⟨rfl, rfl⟩
theorem dec_err (w : World) (g : Nat) (bs : List (BitVec 8)) (err : Int) (h : DecAt w g bs err) :
    Calls Try.prog 40 #[.pointer (some ⟨g, 0, none⟩)] w fun e w' => e = .returned (.int .i64 err) ∧ w' = w := by
  obtain ⟨A, c, hk, hc, hr, ha⟩ := h.ex
  obtain ⟨c1, c2⟩ := hk.two
  clear ha
  go_enter Try.func40, Try.ntmps40
  go_wp2
  go_ret
  exact ⟨rfl, rfl⟩
end Go.Proofs.Ytbanbpphadgoiaa
