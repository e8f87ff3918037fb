/- Texts joined: ObI CbB StA CyJ IcZ StB StC StD. -/
import Derived.Test.YtbanbpphadgoiaaZb3
import Derived.Test.YtbanbpphadgoiaaSpD
import Derived.Test.YtbanbpphadgoiaaObD
import Derived.Lib.SmallJoins
/- Two objects side by side, bytes written into both: what the words say (pure). Conditions: lengths. -/
namespace Go.Proofs.Ytbanbpphadgoiaa
set_option linter.unusedVariables false
set_option linter.unusedSimpArgs false
open Go.RowKit
/-- The words of two objects. -/
def twoW (P n k : Nat) : List (BitVec 64) := allocW (allocW (List.replicate 200 0#64) 0 (1 + P + (n + 7) / 8) (packH P n false 0)) (1 + P + (n + 7) / 8) (1 + 0 + (k + 7) / 8) (packH (0 : Nat) k false 0)
section
variable (P n k : Nat) (x y : List (BitVec 8))
def apA : List (BitVec 64) := putK (twoW P n k) (8 * (1 + P + (n + 7) / 8 + 1 + 0) + 0) y y.length
def apB : List (BitVec 64) := putK (apA P n k y) (8 * (0 + 1 + P) + (n - x.length)) x x.length
variable (hP : P ≤ 7) (hn : n ≤ 63) (hk : k ≤ 63) (hx : x.length ≤ n) (hy : y.length ≤ k)
include hP hn hk
include hx
include hy
end
end Go.Proofs.Ytbanbpphadgoiaa
/- Objects without pointers, copied (pure). Conditions: room. -/
namespace Go.Proofs.Ytbanbpphadgoiaa
set_option linter.unusedVariables false
set_option linter.unusedSimpArgs false
open Go.RowKit Go.Maps
def sumZ (ws : List (BitVec 64)) : List Nat → Nat
  | [] => 0
  | a :: r => szX (ws.getD a 0#64) + sumZ ws r
/-- Where objects come to stand. -/
def posL (ws : List (BitVec 64)) : List Nat → Nat → List Nat
  | [], _ => []
  | a :: r, p => p :: posL ws r (p + szX (ws.getD a 0#64))
section
variable {ws T : List (BitVec 64)} {l : List Nat} {b t : Nat}
end
end Go.Proofs.Ytbanbpphadgoiaa
/- Copying step by step, in words; that there is always room; how many steps there are (pure). Conditions: room for all objects. -/
namespace Go.Proofs.Ytbanbpphadgoiaa
set_option linter.unusedVariables false
set_option linter.unusedSimpArgs false
open Go.RowKit Go.Maps
section
variable {ws T T' : List (BitVec 64)} {l : List Nat} {b t : Nat} {c d : Cy}
theorem sum_app (x y : List Nat) : sumZ ws (x ++ y) = sumZ ws x + sumZ ws y := by
  induction x with
  | nil => show _ = 0 + _; rw [Nat.zero_add]; rfl
  | cons a x ih => show szX _ + sumZ ws (x ++ y) = szX _ + sumZ ws x + _; rw [ih]; omega
theorem sum_sub : ∀ (x y : List Nat), x.Nodup → (∀ a ∈ x, a ∈ y) → sumZ ws x ≤ sumZ ws y
  | [], _, _, _ => Nat.zero_le _
  | a :: x, y, hn, hs => by
    obtain ⟨y1, y2, rfl⟩ := List.append_of_mem (hs a (.head _))
    obtain ⟨n1, n2⟩ := List.nodup_cons.1 hn
    have ih := sum_sub x (y1 ++ y2) n2 (fun z hz => by
      have := hs z (.tail _ hz)
      rcases List.mem_append.1 this with h | h
      · exact List.mem_append.2 (.inl h)
      · rcases List.mem_cons.1 h with h | h
        · exact absurd (h ▸ hz) n1
        · exact List.mem_append.2 (.inr h))
    rw [sum_app] at ih ⊢
    show szX _ + sumZ ws x ≤ sumZ ws y1 + (szX _ + sumZ ws y2)
    omega
/-- The objects that were taken, in their order. -/
def CntI (l : List Nat) (ws : List (BitVec 64)) (c : Cy) (all : List Nat) : Prop := sumZ ws all = c.top ∧ all.Nodup ∧ (∀ a ∈ all, a ∈ l) ∧ ∀ a ∈ l, (fM (c.F.getD a 0#64) = true ↔ a ∈ all)
/-- Headers of objects, one behind the other. -/
def Heads (ws T : List (BitVec 64)) : List Nat → Nat → Nat → Prop
  | [], p, q => p = q
  | a :: r, p, q => T.getD p 0#64 = ws.getD a 0#64 ∧ Heads ws T r (p + szX (ws.getD a 0#64)) q
theorem Heads.sum : ∀ {r : List Nat} {p q : Nat}, Heads ws T r p q → p + sumZ ws r = q
  | [], _, _, h => h
  | a :: r, p, q, h => by have := Heads.sum (r := r) h.2; show p + (szX _ + sumZ ws r) = q; omega
theorem Heads.snoc : ∀ {r : List Nat} {p q a : Nat}, Heads ws T r p q → T.getD q 0#64 = ws.getD a 0#64 → Heads ws T (r ++ [a]) p (q + szX (ws.getD a 0#64))
  | [], p, q, a, h, k => by have h : p = q := h; subst h; exact ⟨k, rfl⟩
  | x :: r, p, q, a, h, k => ⟨h.1, Heads.snoc (r := r) h.2 k⟩
theorem Heads.same (hz : ∀ a ∈ l, 1 ≤ szX (ws.getD a 0#64)) : ∀ {r : List Nat} {p q : Nat}, (∀ a ∈ r, a ∈ l) → Heads ws T r p q → (∀ i, p ≤ i → i < q → T'.getD i 0#64 = T.getD i 0#64) → Heads ws T' r p q
  | [], _, _, _, h, _ => h
  | x :: r, p, q, hr, h, k => by
    have h2 := Heads.sum (r := r) h.2
    have := hz x (hr x (.head _))
    exact ⟨by rw [k p (Nat.le_refl _) (by omega)]; exact h.1, Heads.same (r := r) hz (fun a ha => hr a (.tail _ ha)) h.2 (fun i h1 h3 => k i (by omega) h3)⟩
theorem takeC_all (H : Heap ws l b t) (h : InvC l ws b t c) {all : List Nat} (hc : CntI l ws c all) (hcap : sumZ ws l ≤ c.T.length) {a : Nat} (ha : a ∈ l) :
    ∃ u d, takeC c a = some (u, d) ∧ InvC l ws b t d ∧ ∃ ext, CntI l ws d (all ++ ext) ∧ (∀ p0 ys, Chain ws c.T ys p0 c.top → Chain ws d.T (ys ++ ext) p0 d.top) := by
  obtain ⟨c1, c2, c3, c4⟩ := hc
  by_cases hm : fM (c.F.getD a 0#64) = true
  · have e : takeC c a = some ((fT (c.F.getD a 0#64)).toNat, c) := by unfold takeC; rw [if_pos hm]
    exact ⟨_, _, e, h, [], by rw [List.append_nil]; exact ⟨c1, c2, c3, c4⟩, fun p0 ys k => by rw [List.append_nil]; exact k⟩
  · have hm2 : fM (c.F.getD a 0#64) = false := by simpa using hm
    have hx := h.2.2.2.2 a ha hm2
    have hna : a ∉ all := fun hin => hm ((c4 a ha).2 hin)
    have hle := sum_sub (ws := ws) (a :: all) l (List.nodup_cons.2 ⟨hna, c2⟩) (fun z hz => (List.mem_cons.1 hz).elim (fun e => e ▸ ha) (c3 z))
    have hle : szX (ws.getD a 0#64) + sumZ ws all ≤ sumZ ws l := hle
    have e : takeC c a = some (c.top, movC c a) := by
      unfold takeC
      rw [if_neg hm, if_pos (by rw [hx]; omega)]
    obtain ⟨i1, i2⟩ := takeC_inv H h ha e
    obtain ⟨_, _, _, k4, k5, k6, k7⟩ := takeC_ok h.1 h.2.1 ha e
    rcases i2 with ⟨_, e2⟩ | ⟨_, _, _, e4, e5⟩
    · rw [hm2] at e2; cases e2
    · have hal : a < c.F.length := by have := H.tl; have := (H.good a ha).2.1; rw [h.2.2.1]; omega
      have hFs : (movC c a).F = c.F.set a (goneW c.top) := rfl
      obtain ⟨_, g2, _⟩ := gone_ok (u := c.top) (by have := i1.2.1.2.1; have := i1.2.1.2.2; have := h.2.1.2.1; have := h.2.1.2.2; have := size_pos (H.good a ha).2.2; omega)
      refine ⟨_, _, e, i1, [a], ⟨?_, ?_, ?_, ?_⟩, ?_⟩
      · rw [sum_app]
        show _ + (szX _ + 0) = _
        rw [e4]; omega
      · exact List.nodup_append.2 ⟨c2, by simp, fun x hx y hy => by rw [List.mem_singleton.1 hy]; exact fun e3 => hna (e3 ▸ hx)⟩
      · intro x hx2
        rcases List.mem_append.1 hx2 with h2 | h2
        · exact c3 x h2
        · rw [List.mem_singleton.1 h2]; exact ha
      · intro x hxl
        rw [hFs, getD_set hal]
        by_cases e3 : a = x
        · rw [if_pos e3, g2]
          exact ⟨fun _ => by rw [← e3]; simp, fun _ => rfl⟩
        · rw [if_neg e3, c4 x hxl]
          simp
          exact fun h2 => absurd h2.symm e3
      · intro p0 ys k
        rw [e4]
        exact (k.same (fun i _ h2 => k7 i h2)).snoc e5
theorem takeP_all (H : Heap ws l b t) (h : InvC l ws b t c) {all : List Nat} (hc : CntI l ws c all) (hcap : sumZ ws l ≤ c.T.length) {k : Nat} (hk : k = 0 ∨ (1 ≤ k ∧ k - 1 ∈ l)) :
    ∃ q d, takeP c k = some (q, d) ∧ InvC l ws b t d ∧ ∃ ext, CntI l ws d (all ++ ext) ∧ (∀ p0 ys, Chain ws c.T ys p0 c.top → Chain ws d.T (ys ++ ext) p0 d.top) := by
  cases k with
  | zero => exact ⟨0, c, rfl, h, [], by rw [List.append_nil]; exact hc, fun p0 ys k => by rw [List.append_nil]; exact k⟩
  | succ a =>
    have ha : a ∈ l := by
      rcases hk with hk | ⟨_, hk⟩
      · cases hk
      · simpa using hk
    obtain ⟨u, d, e, r⟩ := takeC_all H h hc hcap ha
    refine ⟨u + 1, d, ?_, r⟩
    show (takeC c a).map _ = _
    rw [e]; rfl
theorem scanC_all (H : Heap ws l b t) {at_ P p1 : Nat} : ∀ (n i : Nat) (c : Cy) (all ys : List Nat), n + i = P → InvC l ws b t c → CntI l ws c all → sumZ ws l ≤ c.T.length → at_ + 1 + P ≤ p1 → p1 ≤ c.top → PtL l c at_ P i → Chain ws c.T ys p1 c.top →
    ∃ d, scanC at_ n i c = some d ∧ InvC l ws b t d ∧ (∃ ext, CntI l ws d (all ++ ext) ∧ Chain ws d.T (ys ++ ext) p1 d.top) ∧ c.top ≤ d.top ∧ d.T.length = c.T.length ∧ d.F.length = c.F.length ∧ (∀ j, j < c.top → ¬ (at_ + 1 + i ≤ j ∧ j < at_ + 1 + P) → d.T.getD j 0#64 = c.T.getD j 0#64)
  | 0, i, c, all, ys, _, h, hc, _, _, _, _, hch => ⟨c, rfl, h, ⟨[], by rw [List.append_nil]; exact hc, by rw [List.append_nil]; exact hch⟩, Nat.le_refl _, rfl, rfl, fun _ _ _ => rfl⟩
  | n + 1, i, c, all, ys, hn, h, hc, hcap, hp1, hpt, hp, hch => by
    have hi : i < P := by omega
    obtain ⟨q, z, hr, k1, ext, k2, k3⟩ := takeP_all H h hc hcap (hp i (Nat.le_refl _) hi)
    obtain ⟨j1, j2, j3, j4, j5, j6, j7, j8, j9⟩ := scan_step h.1 h.2.1 hi (by omega) hp hr
    have hin : at_ + 1 + i < z.T.length := by have := h.2.1.2.2; omega
    have hset : Chain ws (setC z (at_ + 1 + i) q).T (ys ++ ext) p1 (setC z (at_ + 1 + i) q).top := by
      refine (k3 _ _ hch).same (fun j h1 _ => ?_)
      unfold setC
      rw [getD_set hin, if_neg (by omega)]
    obtain ⟨d, m0, m1, ⟨ext2, m2, m3⟩, m4, m5, m6, m7⟩ := scanC_all H n (i + 1) (setC z (at_ + 1 + i) q) (all ++ ext) (ys ++ ext) (by omega) ⟨j1, j2, k1.2.2.1, k1.2.2.2.1, k1.2.2.2.2⟩ k2 (by show _ ≤ (z.T.set _ _).length; rw [List.length_set, j6]; exact hcap) hp1 (show p1 ≤ z.top by omega) j3 hset
    refine ⟨d, ?_, m1, ⟨ext ++ ext2, by rw [← List.append_assoc]; exact m2, by rw [← List.append_assoc]; exact m3⟩, ?_, ?_, ?_, fun j hj hne => ?_⟩
    · show (match takeP c (c.T.getD (at_ + 1 + i) 0#64).toNat with | none => none | some (p, z) => scanC at_ n (i + 1) (setC z (at_ + 1 + i) p)) = _
      rw [hr]
      exact m0
    · have : (setC z (at_ + 1 + i) q).top = z.top := rfl
      omega
    · rw [m5]; show ((z.T.set _ _).length) = _; rw [List.length_set, j6]
    · rw [m6]; show z.F.length = _; rw [j7]
    · rw [m7 j (show j < z.top by omega) (by omega)]
      exact j9 j hj (by omega)
end
/-- A collector: its words, the roots' new places, the next object to scan. -/
structure Sc where
  c : Cy
  qs : List Nat
  sc : Nat
def doneS (ps : List Nat) (s : Sc) : Bool := decide (s.qs.length = ps.length ∧ s.sc = s.c.top)
def onceS (ps : List Nat) (s : Sc) : Option Sc :=
  if s.qs.length < ps.length then (takeP s.c (ps.getD s.qs.length 0)).map fun r => ⟨r.2, s.qs ++ [r.1], s.sc⟩
  else (scanC s.sc (P0 (s.c.T.getD s.sc 0#64)) 0 s.c).map fun d => ⟨d, s.qs, s.sc + szX (s.c.T.getD s.sc 0#64)⟩
def nextS (ps : List Nat) (s : Sc) : Sc := if doneS ps s = true then s else (onceS ps s).getD s
def runS (ps : List Nat) : Nat → Sc → Sc
  | 0, s => s
  | n + 1, s => runS ps n (nextS ps s)
section
variable {ws : List (BitVec 64)} {l : List Nat} {b t m : Nat} {ps : List Nat}
/-- n steps were done, of which so many were scans. -/
structure StI (ws : List (BitVec 64)) (l : List Nat) (b t m : Nat) (ps : List Nat) (s : Sc) (z : Nat) : Prop where
  inv : InvC l ws b t s.c
  len : s.c.T.length = m
  qs : s.qs.length ≤ ps.length
  ord : ∃ zs ys, zs.length = z ∧ CntI l ws s.c (zs ++ ys) ∧ Heads ws s.c.T zs 0 s.sc ∧ Chain ws s.c.T ys s.sc s.c.top
theorem StI.le {s : Sc} {z : Nat} (h : StI ws l b t m ps s z) : s.sc ≤ s.c.top ∧ s.c.top ≤ m := by
  obtain ⟨zs, ys, _, _, _, h2⟩ := h.ord
  exact ⟨h2.le, by have := h.inv.2.1.2.2; rw [h.len] at this; exact this⟩
theorem st_start (H : Heap ws l b t) (hm : m ≤ 8192) : StI ws l b t m ps ⟨⟨ws, List.replicate m 0#64, 0⟩, [], 0⟩ 0 :=
  ⟨inv_start H hm, by simp, Nat.zero_le _, [], [], rfl, ⟨rfl, List.nodup_nil, fun _ h => (by cases h), fun a ha => by
    have : fM (ws.getD a 0#64) = false := (goodX_out (H.good a ha).2.2).2.1
    show (fM (ws.getD a 0#64) = true ↔ _)
    rw [this]; simp⟩, rfl, rfl⟩
def measS (m : Nat) (ps : List Nat) (s : Sc) : Nat := (ps.length - s.qs.length) + (m - s.sc)
theorem once_ok (H : Heap ws l b t) (hps : ∀ p ∈ ps, p = 0 ∨ (1 ≤ p ∧ p - 1 ∈ l)) (hcap : sumZ ws l ≤ m) {s : Sc} {z : Nat} (h : StI ws l b t m ps s z) (hd : doneS ps s = false) :
    ∃ s', onceS ps s = some s' ∧ measS m ps s' < measS m ps s ∧ ((s.qs.length < ps.length ∧ s'.qs.length = s.qs.length + 1 ∧ StI ws l b t m ps s' z) ∨ (¬ s.qs.length < ps.length ∧ s'.qs = s.qs ∧ StI ws l b t m ps s' (z + 1))) := by
  obtain ⟨zs, ys, hz, hcn, hhd, hch⟩ := h.ord
  have hsz : ∀ a ∈ l, 1 ≤ szX (ws.getD a 0#64) := fun a ha => size_pos (H.good a ha).2.2
  have hle := h.le
  by_cases hq : s.qs.length < ps.length
  · have hp := hps (ps.getD s.qs.length 0) (by rw [List.getD_eq_getElem?_getD, List.getElem?_eq_getElem hq]; exact List.getElem_mem _)
    obtain ⟨q, d, hr, k1, ext, k2, k3⟩ := takeP_all H h.inv hcn (by rw [h.len]; exact hcap) hp
    obtain ⟨_, _, _, _, j5, j6, j7, _⟩ := takeP_ok h.inv.1 h.inv.2.1 hp hr
    refine ⟨⟨d, s.qs ++ [q], s.sc⟩, ?_, ?_, .inl ⟨hq, by simp, ?_⟩⟩
    · unfold onceS
      rw [if_pos hq, hr]; rfl
    · show (ps.length - (s.qs ++ [q]).length) + (m - s.sc) < (ps.length - s.qs.length) + (m - s.sc)
      simp; omega
    · refine ⟨k1, j5.trans h.len, by simp; omega, zs, ys ++ ext, hz, by rw [← List.append_assoc]; exact k2, ?_, k3 _ _ hch⟩
      exact hhd.same hsz (fun a ha => hcn.2.2.1 a (List.mem_append.2 (.inl ha))) (fun i _ h2 => j7 i (Nat.lt_of_lt_of_le (show i < s.sc from h2) hle.1))
  · have hne : s.sc < s.c.top := by
      have h1 : ¬ (s.qs.length = ps.length ∧ s.sc = s.c.top) := by unfold doneS at hd; simpa using hd
      have := h.qs
      omega
    obtain ⟨a, ys2, rfl, n1, n2, n3, n4, n5, n6, n7, n8⟩ := next_obj H h.inv hch (fun a ha => hcn.2.2.1 a (List.mem_append.2 (.inr ha))) hne
    obtain ⟨d, m0, m1, ⟨ext, m2, m3⟩, m4, m5, m6, m7⟩ := scanC_all H (P0 (s.c.T.getD s.sc 0#64)) 0 s.c (zs ++ a :: ys2) ys2 (by omega) h.inv hcn (by rw [h.len]; exact hcap) n5 n6 n4 n7
    have hx : d.T.getD s.sc 0#64 = ws.getD a 0#64 := by rw [m7 s.sc hne (by omega)]; exact n2
    refine ⟨⟨d, s.qs, s.sc + szX (s.c.T.getD s.sc 0#64)⟩, ?_, ?_, .inr ⟨hq, rfl, ?_⟩⟩
    · unfold onceS
      rw [if_neg hq, m0]; rfl
    · show (ps.length - s.qs.length) + (m - (s.sc + szX (s.c.T.getD s.sc 0#64))) < (ps.length - s.qs.length) + (m - s.sc)
      omega
    · refine ⟨m1, m5.trans h.len, h.qs, zs ++ [a], ys2 ++ ext, by simp [hz], by simpa using m2, ?_, m3⟩
      show Heads ws d.T (zs ++ [a]) 0 (s.sc + szX (s.c.T.getD s.sc 0#64))
      rw [n2]
      exact (hhd.same hsz (fun x hx2 => hcn.2.2.1 x (List.mem_append.2 (.inl hx2))) (fun i _ h2 => m7 i (by have : i < s.sc := h2; omega) (by have : i < s.sc := h2; omega))).snoc hx
end
end Go.Proofs.Ytbanbpphadgoiaa
/- Live; known of layer 21. No conditions. -/
namespace Go.Proofs.Ytbanbpphadgoiaa
set_option linter.unusedVariables false
set_option linter.unusedSimpArgs false
open Go.RowKit Go.Maps
set_option maxHeartbeats 4000000
set_option maxRecDepth 100000
/-- What a copy tells: the roots' places, the end, the words. -/
def tellC (x : Option (List Nat × Cy)) : Option (List Nat × Nat × List (BitVec 64)) := x.map fun r => (r.1, r.2.top, r.2.T)
def kS0 : List (BitVec 64) := List.replicate 20 0#64
def kS1 : List (BitVec 64) := allocW kS0 3 3 (packH 2 0 false 0)
def kS2 : List (BitVec 64) := allocW kS1 6 2 (packH 1 0 false 0)
def kS3 : List (BitVec 64) := kS2.set 7 (BitVec.ofNat 64 7)
end Go.Proofs.Ytbanbpphadgoiaa
/- slices.Clone of ints. Conditions: lengths. -/
namespace Go.Proofs.Ytbanbpphadgoiaa
set_option linter.unusedVariables false
set_option linter.unusedSimpArgs false
open Go.RowKit Go.Maps
set_option maxHeartbeats 1000000
set_option maxRecDepth 100000
theorem zV_one : ∀ x : Int, (zV x).oneCell' = true := fun _ => rfl
theorem iclone_z (xs : List Int) (A : Option Addr) (c : Nat) (w : World) (hr : Rd zV w w.heap.size A xs) (hl : xs.length ≤ 1073741824) : Calls Try.prog 33 #[.slice A xs.length c] w fun r w' => ∃ A2 c2, r = .returned (.slice A2 xs.length c2) ∧ Ow zV 3 w' w.heap.size (.slice A2 xs.length c2) xs ∧ Below w.heap.size w w' := by
  have hn := fun (a : Option Addr) (n c : Nat) (W : World) => Lib.run_eql_slice_nil (P := Try.prog) W 23 3 a n c 0 0 (by kernel_rfl)
  rcases A with _ | ad
  · have hb : xs = [] := by
      cases xs with
      | nil => rfl
      | cons x xs => obtain ⟨ad, e, _⟩ := hr 0 (by simp); cases e
    subst hb
    go_enter Try.func33, Try.ntmps33
    go_wp2
    go_ret
    exact ⟨none, 0, rfl, Ow.nil_ _ _ _ _, (by repeat (first | with_reducible assumption | with_reducible exact Below.refl _ _ | with_reducible apply bdN | with_reducible apply Below.drew | with_reducible refine Below.alloc ?_ (by simp) _ | with_reducible refine Below.setCell ?_ (by simp) _))⟩
  · go_enter Try.func33, Try.ntmps33
    go_wp2_with (at_builtin; refine wp_app oneI zV_one rfl (.tmp 5) (.tmp 6) rfl w.heap.size _ [] rfl (ow_empty zV 3 w w.heap.size (Nat.le_refl _)) (some ad) xs.length c xs rfl rfl w.heap.size (hr.alloc (Nat.le_refl _) _) (by simp; omega) (by decide) (by simp) ?_; intro v4 w4 ho4 hb4 hg4 hv4)
    rw [List.nil_append] at ho4
    obtain ⟨A4, c4, rfl, hc4⟩ := ho4.form
    go_ret
    exact ⟨A4, c4, rfl, ho4, (Gw.alloc w _).trans hb4⟩
end Go.Proofs.Ytbanbpphadgoiaa
/- A collector in memory; New, Done, Scan, Free. Conditions: lengths. -/
namespace Go.Proofs.Ytbanbpphadgoiaa
set_option linter.unusedVariables false
set_option linter.unusedSimpArgs false
open Go.RowKit Go.Maps
set_option maxHeartbeats 1000000
set_option maxRecDepth 100000
theorem Bk.six {W : World} {g : Nat} {E : TypeId} {a b c d e f : Value} (h : Bk W g E #[a, b, c, d, e, f]) : W.cell? ⟨g, 0, none⟩ = some a ∧ W.cell? ⟨g, 1, none⟩ = some b ∧ W.cell? ⟨g, 2, none⟩ = some c ∧ W.cell? ⟨g, 3, none⟩ = some d ∧ W.cell? ⟨g, 4, none⟩ = some e ∧ W.cell? ⟨g, 5, none⟩ = some f :=
  ⟨h.cell 0, h.cell 1, h.cell 2, h.cell 3, h.cell 4, h.cell 5⟩
/-- Where a collector's parts lie. -/
structure CoF where
  H1 : Nat
  H2 : Nat
  C : Nat
  s1 : Nat
  g1 : Nat
  v1 : Value
  s2 : Nat
  g2 : Nat
  v2 : Value
  b : Nat
  t : Nat
  e : Nat
  xr : Value
structure CoAt (W : World) (B : Nat) (S : Nat → Prop) (Q : Nat) (f : CoF) (roots : List Int) (xw : Value) (s : Sc) (n : Int) (full : Bool) : Prop where
  cy : CyAt W B f.H1 f.H2 f.C f.s1 f.g1 f.v1 f.s2 f.g2 f.v2 f.b f.t f.e s.c
  blk : Bk W Q 84 #[.pointer (some ⟨f.C, 0, none⟩), f.xr, xw, .int .i64 s.sc, .int .u64 n, .bool full]
  rr : Ow zV 3 W (f.C + 1) f.xr roots
  ww : Ow zV 3 W (f.C + 1) xw (backZ s.qs)
  CQ : f.C < Q
  ne : ∀ k, xw.ownBlock = some k → k ≠ Q ∧ f.xr.ownBlock ≠ some k
  neR : f.xr.ownBlock ≠ some Q
  own : ∀ k, S k → B ≤ k ∧ k < W.heap.size
  inc : ∀ k, k = f.C ∨ k = f.s1 ∨ k = f.g1 ∨ k = f.s2 ∨ k = f.g2 ∨ k = Q ∨ f.v1.ownBlock = some k ∨ f.v2.ownBlock = some k ∨ f.xr.ownBlock = some k ∨ xw.ownBlock = some k → S k
section
variable {W W' : World} {B Q : Nat} {S S' : Nat → Prop} {f : CoF} {roots : List Int} {xw : Value} {s : Sc} {n : Int} {full : Bool}
theorem CyAt.keptS {H1 H2 C s1 g1 : Nat} {v1 : Value} {s2 g2 : Nat} {v2 : Value} {b t e : Nat} {c : Cy} (h : CyAt W B H1 H2 C s1 g1 v1 s2 g2 v2 b t e c) (k : Kept S W W') (n : ∀ j, j = C ∨ j = s1 ∨ j = g1 ∨ j = s2 ∨ j = g2 ∨ v1.ownBlock = some j ∨ v2.ownBlock = some j → ¬ S j) : CyAt W' B H1 H2 C s1 g1 v1 s2 g2 v2 b t e c :=
  ⟨k.bk h.blk (n _ (.inl rfl)), h.fr.kept k (n _ (.inr (.inl rfl))) (n _ (.inr (.inr (.inl rfl)))) (fun j hj => n _ (.inr (.inr (.inr (.inr (.inr (.inl hj))))))), h.to_.kept k (n _ (.inr (.inr (.inr (.inl rfl))))) (n _ (.inr (.inr (.inr (.inr (.inl rfl)))))) (fun j hj => n _ (.inr (.inr (.inr (.inr (.inr (.inr hj))))))), h.g2H, h.v2H, h.s2H, h.s1C, h.g1C, h.v1C, h.HC, h.BH⟩
theorem CoAt.kept (h : CoAt W B S Q f roots xw s n full) (k : Kept S' W W') (d : ∀ j, S j → ¬ S' j) : CoAt W' B S Q f roots xw s n full := by
  refine ⟨h.cy.keptS k fun j hj => d j (h.inc j ?_), k.bk h.blk (d _ (h.inc _ (by simp))), k.ow h.rr (fun j hj => d j (h.inc j (by simp [hj]))), k.ow h.ww (fun j hj => d j (h.inc j (by simp [hj]))), h.CQ, h.ne, h.neR, fun j hj => ⟨(h.own j hj).1, Nat.lt_of_lt_of_le (h.own j hj).2 k.size⟩, h.inc⟩
  rcases hj with h | h | h | h | h | h | h <;> simp [h]
theorem CoAt.below (h : CoAt W B S Q f roots xw s n full) (hb : Below W.heap.size W W') : CoAt W' B S Q f roots xw s n full := h.kept (Kept.of_below hb (fun _ => False)) (fun _ _ h => h)
theorem CoAt.form (h : CoAt W B S Q f roots xw s n full) : ∃ A c A2 c2, xw = .slice A s.qs.length c ∧ f.xr = .slice A2 roots.length c2 := by
  obtain ⟨A, c, e, _⟩ := h.ww.form
  obtain ⟨A2, c2, e2, _⟩ := h.rr.form
  exact ⟨A, c, A2, c2, by rw [e]; simp [backZ], e2⟩
end
/-- A new collector. -/
def NewS (ws : List (BitVec 64)) (m : Nat) : Sc := ⟨⟨ws, List.replicate m 0#64, 0⟩, [], 0⟩
theorem snew_err (w : World) (s : Value) (A : Option Addr) (n c : Nat) (words E : Int) (hE : E ≠ 0) (HN : Hid (Calls Try.prog 32 #[s, .slice A n c, .int .i64 words] w (RetP (.tuple #[.pointer none, .int .i64 E]) w))) :
    Calls Try.prog 10 #[s, .slice A n c, .int .i64 words] w (RetP (.tuple #[.pointer none, .int .i64 E]) w) := by
  go_enter Try.func10, Try.ntmps10
  go_wp2_with fail
  refine Calls.mono HN.out ?_
  rintro r w2 ⟨rfl, b2⟩
  have H2 := Lib.hid b2
  clear b2
  go_wp2_with fail
  go_ret2
  exact ⟨rfl, H2.out⟩
theorem snew_ok (w : World) (B s g : Nat) (v : Value) (ws : List (BitVec 64)) (b t e : Nat) (p : SpAt w B s g v ws b t e) (hl : ws.length ≤ 8192) (A : Option Addr) (roots : List Int) (c : Nat) (hr : Rd zV w w.heap.size A roots) (hrl : roots.length ≤ 100000) (hrw : ∀ r ∈ roots, kW r) (m : Nat) (hm : m ≤ 8192) (hE : checkE ws b t roots = 0) :
    Calls Try.prog 10 #[.pointer (some ⟨s, 0, none⟩), .slice A roots.length c, .int .i64 m] w fun r w' => ∃ (S : Nat → Prop) (Q : Nat) (f : CoF) (xw : Value), r = .returned (.tuple #[.pointer (some ⟨Q, 0, none⟩), .int .i64 0]) ∧ CoAt w' w.heap.size S Q f roots xw (NewS ws m) 0 false ∧ f.b = b ∧ f.t = t ∧ Below w.heap.size w w' := by
  have HN := Lib.hid (cnew_ok w B s g v ws b t e p hl A roots c hr hrl hrw m hm hE)
  have HC := Lib.hid (fun W (hb : Below w.heap.size w W) => iclone_z roots A c W ((hr.below hb).more hb.size) (by omega))
  obtain ⟨n, hn⟩ : ∃ n, n = roots.length := ⟨_, rfl⟩
  rw [← hn] at HN HC ⊢
  clear p hl hr hrl hrw hm hE hn
  go_enter Try.func10, Try.ntmps10
  go_wp2_with fail
  refine Calls.mono HN.out ?_
  rintro r w2 ⟨H1, H2, C, s1, g1, v1, s2, g2, v2, rfl, hc2, b2⟩
  have K2 := Lib.hid (And.intro hc2 b2)
  clear hc2 b2
  go_wp2_with fail
  refine Calls.mono (HC.out w2 K2.out.2) ?_
  rintro r w3 ⟨A3, c3, rfl, ho3, b3⟩
  have K3 := Lib.hid (And.intro ho3 (And.intro (K2.out.1.below b3) (K2.out.2.trans (b3.mono K2.out.2.size))))
  have Kb := Lib.hid b3
  clear ho3 b3
  go_wp2_with fail
  go_ret2
  obtain ⟨xr, hxr⟩ : ∃ xr, xr = Value.slice A3 n c3 := ⟨_, rfl⟩
  have ho3 := K3.out.1
  rw [← hxr] at ho3
  have hb := Gw.alloc w3 (.cells #[.pointer (some ⟨C, 0, none⟩), .slice A3 n c3, .slice none 0 0, .int .i64 0, .int .u64 0, .bool false] 84)
  have hk := Bk.new w3 84 #[.pointer (some ⟨C, 0, none⟩), .slice A3 n c3, .slice none 0 0, .int .i64 0, .int .u64 0, .bool false]
  have hcy := K3.out.2.1
  have hC2 := K2.out.1.blk.lt
  have hbs := Kb.out.size
  have hb4 := K3.out.2.2.alloc K3.out.2.2.size (.cells #[.pointer (some ⟨C, 0, none⟩), .slice A3 n c3, .slice none 0 0, .int .i64 0, .int .u64 0, .bool false] 84)
  have hk1 := hcy.keptC.1
  have q1 := hcy.fr.hs
  have q2 := hcy.s2H
  have q3 := hcy.BH
  have q4 := hcy.HC
  have q5 := hcy.to_.hs
  have q6 := hcy.s1C
  have q7 := hcy.fr.mem.ge
  have q8 := hcy.g1C
  have q9 := hcy.to_.mem.ge
  have q10 := hcy.g2H
  refine ⟨fun j => w.heap.size ≤ j ∧ j ≤ w3.heap.size, w3.heap.size, ⟨H1, H2, C, s1, g1, v1, s2, g2, v2, b, t, e, xr⟩, .slice none 0 0, rfl, ?_, rfl, rfl, hb4⟩
  refine ⟨hcy.below hb, by rw [hxr]; exact hk, (ho3.mono (show C + 1 ≤ w2.heap.size from hC2)).below hb, Ow.nil_ _ _ _ _, Nat.lt_of_lt_of_le hC2 hbs, (fun k hk => by cases hk), ?_, fun k hk => ⟨hk.1, ?_⟩, ?_⟩
  · intro h
    have := (ho3.lt _ h).2
    omega
  · exact Nat.lt_of_le_of_lt hk.2 (Bk.lt (Bk.new w3 84 #[.pointer (some ⟨C, 0, none⟩), .slice A3 n c3, .slice none 0 0, .int .i64 0, .int .u64 0, .bool false]))
  · rintro k (h | h | h | h | h | h | h | h | h | h)
    · have h : k = C := h; exact ⟨by omega, by omega⟩
    · have h : k = s1 := h; exact ⟨by omega, by omega⟩
    · have h : k = g1 := h; exact ⟨by omega, by omega⟩
    · have h : k = s2 := h; exact ⟨by omega, by omega⟩
    · have h : k = g2 := h; exact ⟨by omega, by omega⟩
    · have h : k = w3.heap.size := h; exact ⟨by have := K3.out.2.2.size; omega, by omega⟩
    · have h1 := hcy.fr.mem.own_ge k h; have h2 := hcy.v1C k h; exact ⟨by omega, by omega⟩
    · have h1 := hcy.to_.mem.own_ge k h; have h2 := hcy.v2H k h; exact ⟨by omega, by omega⟩
    · have h1 := ho3.lt k h; exact ⟨by omega, by omega⟩
    · cases h
section
variable {B Q : Nat} {S : Nat → Prop} {f : CoF} {roots : List Int} {xw : Value} {s : Sc} {n : Int}
theorem scscan_c (w : World) (p : CoAt w B S Q f roots xw s n false) : Calls Try.prog 20 #[.pointer (some ⟨Q, 0, none⟩)] w (RetP (.int .i64 s.sc) w) := by
  obtain ⟨c0, c1, c2, c3, c4, c5⟩ := p.blk.six
  clear p
  go_enter Try.func20, Try.ntmps20
  go_wp2_with fail
  go_ret
  exact ⟨rfl, Below.refl _ _⟩
theorem scfree_c (w : World) {full : Bool} (p : CoAt w B S Q f roots xw s n full) : Calls Try.prog 21 #[.pointer (some ⟨Q, 0, none⟩)] w (RetP (.int .i64 s.c.top) w) := by
  obtain ⟨c0, c1, c2, c3, c4, c5⟩ := p.blk.six
  have HT := Lib.hid (ctop_c w p.cy)
  clear p
  go_enter Try.func21, Try.ntmps21
  go_wp2_with fail
  refine Calls.mono HT.out ?_
  rintro r w2 ⟨rfl, b2⟩
  have HB2 := Lib.hid b2
  clear b2
  go_wp2_with fail
  go_ret
  exact ⟨rfl, HB2.out⟩
end
end Go.Proofs.Ytbanbpphadgoiaa
/- A collector does what is next, once: it takes the next root. Conditions: lengths. -/
namespace Go.Proofs.Ytbanbpphadgoiaa
set_option linter.unusedVariables false
set_option linter.unusedSimpArgs false
open Go.RowKit Go.Maps
set_option maxHeartbeats 1000000
set_option maxRecDepth 100000
theorem oc3 (Q : Exit → Act → World → Prop) (a0 : Act) (w : World) (D C i N c : Nat) (ad : Addr) (A : Option Addr) (G : Nat → Prop) (y u er : Int) (K : World → Prop) (hQ : D < w.heap.size) (hQn : ¬ G D) (hA : A = some ad) (hlt : (ad.add i).block < w.heap.size) (hn : ¬ G (ad.add i).block) (c0 : w.cell? ⟨D, 0, none⟩ = some (.pointer (some ⟨C, 0, none⟩))) (c1 : w.cell? ⟨D, 1, none⟩ = some (.slice A N c)) (q0 : (0 : Int) ≤ (i : Int)) (q1 : (i : Int) < (N : Int)) (cr : w.cell? (ad.add i) = some (.int .i64 y)) (hK : ∀ a b, K a → Gw a b → K b) (hp : Hid (∀ W, Below w.heap.size w W → Calls Try.prog 51 #[.pointer (some ⟨C, 0, none⟩), .int .i64 y] W (fun e w2 => ∃ v, e = .returned v ∧ Kept G W w2 ∧ AndV (.tuple #[.int .i64 u, .int .i64 er]) K v w2))) (hsz : a0.tmps.size = 74) (sl0 : a0.tmps.getD 0 undef = .pointer (some ⟨D, 0, none⟩)) (sl3 : a0.tmps.getD 3 undef = .int .i64 (i : Int))
    (fin : ∀ (vals : Nat → Value) (w1 : World), Kept G w w1 → (IsV (.int .i64 u)) (vals 15) w1 → (IsV (.int .i64 er)) (vals 16) w1 → (AndV (.tuple #[.int .i64 u, .int .i64 er]) K) (vals 11) w1 → Q .normal (putO vals [some 21, some 22, some 23, some 24, some 25, some 26, some 27, some 28, some 29, some 30, some 31, some 32, some 20, some 33, some 34, some 4, some 5] 0 a0) w1) :
    (Code.region 3 (regIn Try.f42 3) true).wp Try.prog Q a0 w := by
  have hGs : ∀ (j : Nat) (v : Value) (w3 : World), (srcOf [] j = j → (([IsV (.pointer (some ⟨D, 0, none⟩)), IsV (.pointer (some ⟨D, 0, none⟩)), IsV (.pointer (some ⟨D, 0, none⟩)), IsV (.pointer (some ⟨C, 0, none⟩)), IsV (.pointer (some ⟨D, 0, none⟩)), IsV (.pointer (some ⟨D, 0, none⟩)), IsV (.pointer (some ⟨D, 1, none⟩)), IsV (.slice A N c), IsV (.int .i64 (i : Int)), IsV (.pointer (some (ad.add i))), IsV (.int .i64 y), AndV (.tuple #[.int .i64 u, .int .i64 er]) K, IsV (.tuple #[.int .i64 u, .int .i64 er]), IsV (.int .i64 u), IsV (.int .i64 er), IsV (.int .i64 u), IsV (.int .i64 er)] : List (Value → World → Prop)).getD j fun _ _ => True) v w3) → (([IsV (.pointer (some ⟨D, 0, none⟩)), IsV (.pointer (some ⟨D, 0, none⟩)), IsV (.pointer (some ⟨D, 0, none⟩)), IsV (.pointer (some ⟨C, 0, none⟩)), IsV (.pointer (some ⟨D, 0, none⟩)), IsV (.pointer (some ⟨D, 0, none⟩)), IsV (.pointer (some ⟨D, 1, none⟩)), IsV (.slice A N c), IsV (.int .i64 (i : Int)), IsV (.pointer (some (ad.add i))), IsV (.int .i64 y), AndV (.tuple #[.int .i64 u, .int .i64 er]) K, IsV (.tuple #[.int .i64 u, .int .i64 er]), IsV (.int .i64 u), IsV (.int .i64 er), IsV (.int .i64 u), IsV (.int .i64 er)] : List (Value → World → Prop)).getD j fun _ _ => True) v w3 := by
    intro j v w3 h
    match j, h with
    | 0, h => exact h rfl
    | 1, h => exact h rfl
    | 2, h => exact h rfl
    | 3, h => exact h rfl
    | 4, h => exact h rfl
    | 5, h => exact h rfl
    | 6, h => exact h rfl
    | 7, h => exact h rfl
    | 8, h => exact h rfl
    | 9, h => exact h rfl
    | 10, h => exact h rfl
    | 11, h => exact h rfl
    | 12, h => exact h rfl
    | 13, h => exact h rfl
    | 14, h => exact h rfl
    | 15, h => exact h rfl
    | 16, h => exact h rfl
    | _ + 17, _ => exact trivial
  refine region_byK [IsV (.pointer (some ⟨D, 0, none⟩)),
    IsV (.pointer (some ⟨D, 0, none⟩)),
    IsV (.pointer (some ⟨D, 0, none⟩)),
    IsV (.pointer (some ⟨C, 0, none⟩)),
    IsV (.pointer (some ⟨D, 0, none⟩)),
    IsV (.pointer (some ⟨D, 0, none⟩)),
    IsV (.pointer (some ⟨D, 1, none⟩)),
    IsV (.slice A N c),
    IsV (.int .i64 (i : Int)),
    IsV (.pointer (some (ad.add i))),
    IsV (.int .i64 y),
    AndV (.tuple #[.int .i64 u, .int .i64 er]) K,
    IsV (.tuple #[.int .i64 u, .int .i64 er]),
    IsV (.int .i64 u),
    IsV (.int .i64 er),
    IsV (.int .i64 u),
    IsV (.int .i64 er)] [(11, fun w w1 => Kept G w w1)] []
    [some 21, some 22, some 23, some 24, some 25, some 26, some 27, some 28, some 29, some 30, some 31, some 32, some 20, some 33, some 34, some 4, some 5] (fun w1 => Kept G w w1) (by kernel_rfl) (Kept.of_below (Gw.drew _) _) (fun _ _ h g => h.trans (Kept.of_below g _)) 11 (fun w1 => Below w.heap.size w w1) (Gw.drew _) (fun _ _ h g => h.trans (Below.mono g h.size)) (by intro p hp; simp only [List.mem_cons, List.not_mem_nil, or_false] at hp; subst hp; rfl) (by rw [hsz]; kernel_rfl) (by kernel_rfl) (by kernel_rfl) ?_ ?_ ?_ ?_
  · intro f hf
    simp only [List.mem_cons, List.not_mem_nil, or_false] at hf
    rcases hf with rfl | rfl | rfl | rfl | rfl | rfl | rfl | rfl | rfl | rfl | rfl | rfl | rfl | rfl | rfl | rfl | rfl <;> intro v a b h g <;> first | exact IsV.mono h | exact BoxV.mono h g | exact BoxC.mono h g | exact AndV.mono hK h g
  · intro p hp
    simp only [List.mem_cons, List.not_mem_nil, or_false] at hp
    rcases hp with rfl
    · refine ⟨fun a b h1 h2 => h1.trans h2, ?_⟩
      intro f hf
      simp only [List.eraseIdx_cons_succ, List.eraseIdx_cons_zero, List.mem_cons, List.not_mem_nil, or_false] at hf
      rcases hf with rfl | rfl | rfl | rfl | rfl | rfl | rfl | rfl | rfl | rfl | rfl | rfl | rfl | rfl | rfl | rfl <;> intro v a b h g <;> exact h
  · refine ⟨?_, ?_, ?_, ?_, ?_, ?_, ?_, ?_, ?_, ?_, ?_, ?_, ?_, ?_, ?_, ?_, ?_, trivial⟩
    · refine OwesG.mk2 (D := Gw) (F' := fun j => ([IsV (.pointer (some ⟨D, 0, none⟩)), IsV (.pointer (some ⟨D, 0, none⟩)), IsV (.pointer (some ⟨D, 0, none⟩)), IsV (.pointer (some ⟨C, 0, none⟩)), IsV (.pointer (some ⟨D, 0, none⟩)), IsV (.pointer (some ⟨D, 0, none⟩)), IsV (.pointer (some ⟨D, 1, none⟩)), IsV (.slice A N c), IsV (.int .i64 (i : Int)), IsV (.pointer (some (ad.add i))), IsV (.int .i64 y), AndV (.tuple #[.int .i64 u, .int .i64 er]) K, IsV (.tuple #[.int .i64 u, .int .i64 er]), IsV (.int .i64 u), IsV (.int .i64 er), IsV (.int .i64 u), IsV (.int .i64 er)] : List (Value → World → Prop)).getD j fun _ _ => True) rfl hGs (fun v w h => h) ?_
      exact owes_mvD gw_self 0 (by kernel_rfl) (by kernel_rfl) (by kernel_rfl) sl0 (fun _ => rfl)
    · refine OwesG.mk2 (D := Gw) (F' := fun j => ([IsV (.pointer (some ⟨D, 0, none⟩)), IsV (.pointer (some ⟨D, 0, none⟩)), IsV (.pointer (some ⟨D, 0, none⟩)), IsV (.pointer (some ⟨C, 0, none⟩)), IsV (.pointer (some ⟨D, 0, none⟩)), IsV (.pointer (some ⟨D, 0, none⟩)), IsV (.pointer (some ⟨D, 1, none⟩)), IsV (.slice A N c), IsV (.int .i64 (i : Int)), IsV (.pointer (some (ad.add i))), IsV (.int .i64 y), AndV (.tuple #[.int .i64 u, .int .i64 er]) K, IsV (.tuple #[.int .i64 u, .int .i64 er]), IsV (.int .i64 u), IsV (.int .i64 er), IsV (.int .i64 u), IsV (.int .i64 er)] : List (Value → World → Prop)).getD j fun _ _ => True) rfl hGs (fun v w h => h) ?_
      refine owes_vD (Go.Op.nilCheck (Go.Operand.tmp 21)) 0 [0] (by kernel_rfl) (by kernel_rfl) (by kernel_rfl) rfl fun vals w1 ρ hG hF hρ hcst hfun => ?_
      have e21 : ρ (.tmp 21) = .pointer (some ⟨D, 0, none⟩) := ((hρ 21).trans (slotJ [0] (by rw [hsz]; decide) (by kernel_rfl))).trans (hF 0 (by decide))
      obtain ⟨hG, _⟩ := hG
      clear hρ hF hGs hcst hfun sl0 sl3 fin
      exact opv_val (by go_simp <;> rfl) ⟨gw_self _, rfl⟩
    · refine OwesG.mk2 (D := Gw) (F' := fun j => ([IsV (.pointer (some ⟨D, 0, none⟩)), IsV (.pointer (some ⟨D, 0, none⟩)), IsV (.pointer (some ⟨D, 0, none⟩)), IsV (.pointer (some ⟨C, 0, none⟩)), IsV (.pointer (some ⟨D, 0, none⟩)), IsV (.pointer (some ⟨D, 0, none⟩)), IsV (.pointer (some ⟨D, 1, none⟩)), IsV (.slice A N c), IsV (.int .i64 (i : Int)), IsV (.pointer (some (ad.add i))), IsV (.int .i64 y), AndV (.tuple #[.int .i64 u, .int .i64 er]) K, IsV (.tuple #[.int .i64 u, .int .i64 er]), IsV (.int .i64 u), IsV (.int .i64 er), IsV (.int .i64 u), IsV (.int .i64 er)] : List (Value → World → Prop)).getD j fun _ _ => True) rfl hGs (fun v w h => h) ?_
      refine owes_vD (Go.Op.fieldAddr 84 (Go.Operand.tmp 22) 0) 0 [1] (by kernel_rfl) (by kernel_rfl) (by kernel_rfl) rfl fun vals w1 ρ hG hF hρ hcst hfun => ?_
      have e22 : ρ (.tmp 22) = .pointer (some ⟨D, 0, none⟩) := ((hρ 22).trans (slotJ [1] (by rw [hsz]; decide) (by kernel_rfl))).trans (hF 1 (by decide))
      obtain ⟨hG, _⟩ := hG
      clear hρ hF hGs hcst hfun sl0 sl3 fin
      exact opv_val (by go_simp <;> rfl) ⟨gw_self _, rfl⟩
    · refine OwesG.mk2 (D := Gw) (F' := fun j => ([IsV (.pointer (some ⟨D, 0, none⟩)), IsV (.pointer (some ⟨D, 0, none⟩)), IsV (.pointer (some ⟨D, 0, none⟩)), IsV (.pointer (some ⟨C, 0, none⟩)), IsV (.pointer (some ⟨D, 0, none⟩)), IsV (.pointer (some ⟨D, 0, none⟩)), IsV (.pointer (some ⟨D, 1, none⟩)), IsV (.slice A N c), IsV (.int .i64 (i : Int)), IsV (.pointer (some (ad.add i))), IsV (.int .i64 y), AndV (.tuple #[.int .i64 u, .int .i64 er]) K, IsV (.tuple #[.int .i64 u, .int .i64 er]), IsV (.int .i64 u), IsV (.int .i64 er), IsV (.int .i64 u), IsV (.int .i64 er)] : List (Value → World → Prop)).getD j fun _ _ => True) rfl hGs (fun v w h => h) ?_
      refine owes_vD (Go.Op.load 79 (Go.Operand.tmp 23)) 79 [2] (by kernel_rfl) (by kernel_rfl) (by kernel_rfl) rfl fun vals w1 ρ hG hF hρ hcst hfun => ?_
      have e23 : ρ (.tmp 23) = .pointer (some ⟨D, 0, none⟩) := ((hρ 23).trans (slotJ [2] (by rw [hsz]; decide) (by kernel_rfl))).trans (hF 2 (by decide))
      obtain ⟨hG, _⟩ := hG
      have k := (hG.cell (p := ⟨D, 0, none⟩) hQ hQn).trans c0
      clear hρ hF hGs hcst hfun sl0 sl3 fin
      exact opv_val (by go_simp <;> rfl) ⟨gw_self _, rfl⟩
    · refine OwesG.mk2 (D := Gw) (F' := fun j => ([IsV (.pointer (some ⟨D, 0, none⟩)), IsV (.pointer (some ⟨D, 0, none⟩)), IsV (.pointer (some ⟨D, 0, none⟩)), IsV (.pointer (some ⟨C, 0, none⟩)), IsV (.pointer (some ⟨D, 0, none⟩)), IsV (.pointer (some ⟨D, 0, none⟩)), IsV (.pointer (some ⟨D, 1, none⟩)), IsV (.slice A N c), IsV (.int .i64 (i : Int)), IsV (.pointer (some (ad.add i))), IsV (.int .i64 y), AndV (.tuple #[.int .i64 u, .int .i64 er]) K, IsV (.tuple #[.int .i64 u, .int .i64 er]), IsV (.int .i64 u), IsV (.int .i64 er), IsV (.int .i64 u), IsV (.int .i64 er)] : List (Value → World → Prop)).getD j fun _ _ => True) rfl hGs (fun v w h => h) ?_
      exact owes_mvD gw_self 0 (by kernel_rfl) (by kernel_rfl) (by kernel_rfl) sl0 (fun _ => rfl)
    · refine OwesG.mk2 (D := Gw) (F' := fun j => ([IsV (.pointer (some ⟨D, 0, none⟩)), IsV (.pointer (some ⟨D, 0, none⟩)), IsV (.pointer (some ⟨D, 0, none⟩)), IsV (.pointer (some ⟨C, 0, none⟩)), IsV (.pointer (some ⟨D, 0, none⟩)), IsV (.pointer (some ⟨D, 0, none⟩)), IsV (.pointer (some ⟨D, 1, none⟩)), IsV (.slice A N c), IsV (.int .i64 (i : Int)), IsV (.pointer (some (ad.add i))), IsV (.int .i64 y), AndV (.tuple #[.int .i64 u, .int .i64 er]) K, IsV (.tuple #[.int .i64 u, .int .i64 er]), IsV (.int .i64 u), IsV (.int .i64 er), IsV (.int .i64 u), IsV (.int .i64 er)] : List (Value → World → Prop)).getD j fun _ _ => True) rfl hGs (fun v w h => h) ?_
      refine owes_vD (Go.Op.nilCheck (Go.Operand.tmp 25)) 0 [4] (by kernel_rfl) (by kernel_rfl) (by kernel_rfl) rfl fun vals w1 ρ hG hF hρ hcst hfun => ?_
      have e25 : ρ (.tmp 25) = .pointer (some ⟨D, 0, none⟩) := ((hρ 25).trans (slotJ [4] (by rw [hsz]; decide) (by kernel_rfl))).trans (hF 4 (by decide))
      obtain ⟨hG, _⟩ := hG
      clear hρ hF hGs hcst hfun sl0 sl3 fin
      exact opv_val (by go_simp <;> rfl) ⟨gw_self _, rfl⟩
    · refine OwesG.mk2 (D := Gw) (F' := fun j => ([IsV (.pointer (some ⟨D, 0, none⟩)), IsV (.pointer (some ⟨D, 0, none⟩)), IsV (.pointer (some ⟨D, 0, none⟩)), IsV (.pointer (some ⟨C, 0, none⟩)), IsV (.pointer (some ⟨D, 0, none⟩)), IsV (.pointer (some ⟨D, 0, none⟩)), IsV (.pointer (some ⟨D, 1, none⟩)), IsV (.slice A N c), IsV (.int .i64 (i : Int)), IsV (.pointer (some (ad.add i))), IsV (.int .i64 y), AndV (.tuple #[.int .i64 u, .int .i64 er]) K, IsV (.tuple #[.int .i64 u, .int .i64 er]), IsV (.int .i64 u), IsV (.int .i64 er), IsV (.int .i64 u), IsV (.int .i64 er)] : List (Value → World → Prop)).getD j fun _ _ => True) rfl hGs (fun v w h => h) ?_
      refine owes_vD (Go.Op.fieldAddr 84 (Go.Operand.tmp 26) 1) 0 [5] (by kernel_rfl) (by kernel_rfl) (by kernel_rfl) rfl fun vals w1 ρ hG hF hρ hcst hfun => ?_
      have e26 : ρ (.tmp 26) = .pointer (some ⟨D, 0, none⟩) := ((hρ 26).trans (slotJ [5] (by rw [hsz]; decide) (by kernel_rfl))).trans (hF 5 (by decide))
      obtain ⟨hG, _⟩ := hG
      clear hρ hF hGs hcst hfun sl0 sl3 fin
      exact opv_val (by go_simp <;> rfl) ⟨gw_self _, rfl⟩
    · refine OwesG.mk2 (D := Gw) (F' := fun j => ([IsV (.pointer (some ⟨D, 0, none⟩)), IsV (.pointer (some ⟨D, 0, none⟩)), IsV (.pointer (some ⟨D, 0, none⟩)), IsV (.pointer (some ⟨C, 0, none⟩)), IsV (.pointer (some ⟨D, 0, none⟩)), IsV (.pointer (some ⟨D, 0, none⟩)), IsV (.pointer (some ⟨D, 1, none⟩)), IsV (.slice A N c), IsV (.int .i64 (i : Int)), IsV (.pointer (some (ad.add i))), IsV (.int .i64 y), AndV (.tuple #[.int .i64 u, .int .i64 er]) K, IsV (.tuple #[.int .i64 u, .int .i64 er]), IsV (.int .i64 u), IsV (.int .i64 er), IsV (.int .i64 u), IsV (.int .i64 er)] : List (Value → World → Prop)).getD j fun _ _ => True) rfl hGs (fun v w h => h) ?_
      refine owes_vD (Go.Op.load 23 (Go.Operand.tmp 27)) 23 [6] (by kernel_rfl) (by kernel_rfl) (by kernel_rfl) rfl fun vals w1 ρ hG hF hρ hcst hfun => ?_
      have e27 : ρ (.tmp 27) = .pointer (some ⟨D, 1, none⟩) := ((hρ 27).trans (slotJ [6] (by rw [hsz]; decide) (by kernel_rfl))).trans (hF 6 (by decide))
      obtain ⟨hG, _⟩ := hG
      have k := (hG.cell (p := ⟨D, 1, none⟩) hQ hQn).trans c1
      clear hρ hF hGs hcst hfun sl0 sl3 fin
      exact opv_val (by go_simp <;> rfl) ⟨gw_self _, rfl⟩
    · refine OwesG.mk2 (D := Gw) (F' := fun j => ([IsV (.pointer (some ⟨D, 0, none⟩)), IsV (.pointer (some ⟨D, 0, none⟩)), IsV (.pointer (some ⟨D, 0, none⟩)), IsV (.pointer (some ⟨C, 0, none⟩)), IsV (.pointer (some ⟨D, 0, none⟩)), IsV (.pointer (some ⟨D, 0, none⟩)), IsV (.pointer (some ⟨D, 1, none⟩)), IsV (.slice A N c), IsV (.int .i64 (i : Int)), IsV (.pointer (some (ad.add i))), IsV (.int .i64 y), AndV (.tuple #[.int .i64 u, .int .i64 er]) K, IsV (.tuple #[.int .i64 u, .int .i64 er]), IsV (.int .i64 u), IsV (.int .i64 er), IsV (.int .i64 u), IsV (.int .i64 er)] : List (Value → World → Prop)).getD j fun _ _ => True) rfl hGs (fun v w h => h) ?_
      exact owes_mvD gw_self 3 (by kernel_rfl) (by kernel_rfl) (by kernel_rfl) sl3 (fun _ => rfl)
    · refine OwesG.mk2 (D := Gw) (F' := fun j => ([IsV (.pointer (some ⟨D, 0, none⟩)), IsV (.pointer (some ⟨D, 0, none⟩)), IsV (.pointer (some ⟨D, 0, none⟩)), IsV (.pointer (some ⟨C, 0, none⟩)), IsV (.pointer (some ⟨D, 0, none⟩)), IsV (.pointer (some ⟨D, 0, none⟩)), IsV (.pointer (some ⟨D, 1, none⟩)), IsV (.slice A N c), IsV (.int .i64 (i : Int)), IsV (.pointer (some (ad.add i))), IsV (.int .i64 y), AndV (.tuple #[.int .i64 u, .int .i64 er]) K, IsV (.tuple #[.int .i64 u, .int .i64 er]), IsV (.int .i64 u), IsV (.int .i64 er), IsV (.int .i64 u), IsV (.int .i64 er)] : List (Value → World → Prop)).getD j fun _ _ => True) rfl hGs (fun v w h => h) ?_
      refine owes_vD (Go.Op.indexAddr 23 (Go.Operand.tmp 28) (Go.Operand.tmp 29)) 0 [7, 8] (by kernel_rfl) (by kernel_rfl) (by kernel_rfl) rfl fun vals w1 ρ hG hF hρ hcst hfun => ?_
      have e28 : ρ (.tmp 28) = .slice A N c := ((hρ 28).trans (slotJ [7, 8] (by rw [hsz]; decide) (by kernel_rfl))).trans (hF 7 (by decide))
      have e29 : ρ (.tmp 29) = .int .i64 (i : Int) := ((hρ 29).trans (slotJ [7, 8] (by rw [hsz]; decide) (by kernel_rfl))).trans (hF 8 (by decide))
      obtain ⟨hG, _⟩ := hG
      subst hA
      clear hρ hF hGs hcst hfun sl0 sl3 fin
      exact opv_val (by go_simp <;> rfl) ⟨gw_self _, rfl⟩
    · refine OwesG.mk2 (D := Gw) (F' := fun j => ([IsV (.pointer (some ⟨D, 0, none⟩)), IsV (.pointer (some ⟨D, 0, none⟩)), IsV (.pointer (some ⟨D, 0, none⟩)), IsV (.pointer (some ⟨C, 0, none⟩)), IsV (.pointer (some ⟨D, 0, none⟩)), IsV (.pointer (some ⟨D, 0, none⟩)), IsV (.pointer (some ⟨D, 1, none⟩)), IsV (.slice A N c), IsV (.int .i64 (i : Int)), IsV (.pointer (some (ad.add i))), IsV (.int .i64 y), AndV (.tuple #[.int .i64 u, .int .i64 er]) K, IsV (.tuple #[.int .i64 u, .int .i64 er]), IsV (.int .i64 u), IsV (.int .i64 er), IsV (.int .i64 u), IsV (.int .i64 er)] : List (Value → World → Prop)).getD j fun _ _ => True) rfl hGs (fun v w h => h) ?_
      refine owes_vD (Go.Op.load 3 (Go.Operand.tmp 30)) 3 [9] (by kernel_rfl) (by kernel_rfl) (by kernel_rfl) rfl fun vals w1 ρ hG hF hρ hcst hfun => ?_
      have e30 : ρ (.tmp 30) = .pointer (some (ad.add i)) := ((hρ 30).trans (slotJ [9] (by rw [hsz]; decide) (by kernel_rfl))).trans (hF 9 (by decide))
      obtain ⟨hG, _⟩ := hG
      have k := (hG.cell (p := ad.add i) hlt hn).trans cr
      clear hρ hF hGs hcst hfun sl0 sl3 fin
      exact opv_val (by go_simp <;> rfl) ⟨gw_self _, rfl⟩
    · refine OwesG.mk2 (D := fun w w1 => Kept G w w1) (F' := fun j => ([IsV (.pointer (some ⟨D, 0, none⟩)), IsV (.pointer (some ⟨D, 0, none⟩)), IsV (.pointer (some ⟨D, 0, none⟩)), IsV (.pointer (some ⟨C, 0, none⟩)), IsV (.pointer (some ⟨D, 0, none⟩)), IsV (.pointer (some ⟨D, 0, none⟩)), IsV (.pointer (some ⟨D, 1, none⟩)), IsV (.slice A N c), IsV (.int .i64 (i : Int)), IsV (.pointer (some (ad.add i))), IsV (.int .i64 y), AndV (.tuple #[.int .i64 u, .int .i64 er]) K, IsV (.tuple #[.int .i64 u, .int .i64 er]), IsV (.int .i64 u), IsV (.int .i64 er), IsV (.int .i64 u), IsV (.int .i64 er)] : List (Value → World → Prop)).getD j fun _ _ => True) rfl hGs (fun v w h => h) ?_
      refine owes_vD (Go.Op.call { callee := Go.Callee.value (Go.Operand.func 51), args := #[Go.Operand.tmp 24, Go.Operand.tmp 31], argTypes := #[79, 3] }) 73 [3, 10] (by kernel_rfl) (by kernel_rfl) (by kernel_rfl) rfl fun vals w1 ρ hG hF hρ hcst hfun => ?_
      have e24 : ρ (.tmp 24) = .pointer (some ⟨C, 0, none⟩) := ((hρ 24).trans (slotJ [3, 10] (by rw [hsz]; decide) (by kernel_rfl))).trans (hF 3 (by decide))
      have e31 : ρ (.tmp 31) = .int .i64 y := ((hρ 31).trans (slotJ [3, 10] (by rw [hsz]; decide) (by kernel_rfl))).trans (hF 10 (by decide))
      obtain ⟨hG, hPre⟩ := hG; have hPre : Below w.heap.size w w1 := hPre
      clear hρ hF hGs hcst sl0 sl3 fin
      exact opv_enter (by go_simp <;> rfl) (hp.out w1 hPre)
    · refine OwesG.mk2 (D := Gw) (F' := fun j => ([IsV (.pointer (some ⟨D, 0, none⟩)), IsV (.pointer (some ⟨D, 0, none⟩)), IsV (.pointer (some ⟨D, 0, none⟩)), IsV (.pointer (some ⟨C, 0, none⟩)), IsV (.pointer (some ⟨D, 0, none⟩)), IsV (.pointer (some ⟨D, 0, none⟩)), IsV (.pointer (some ⟨D, 1, none⟩)), IsV (.slice A N c), IsV (.int .i64 (i : Int)), IsV (.pointer (some (ad.add i))), IsV (.int .i64 y), AndV (.tuple #[.int .i64 u, .int .i64 er]) K, IsV (.tuple #[.int .i64 u, .int .i64 er]), IsV (.int .i64 u), IsV (.int .i64 er), IsV (.int .i64 u), IsV (.int .i64 er)] : List (Value → World → Prop)).getD j fun _ _ => True) rfl hGs (fun v w h => h) ?_
      exact owes_mvjD gw_self 11 32 (by kernel_rfl) (by kernel_rfl) (by kernel_rfl) (by kernel_rfl) (by rw [hsz]; decide) (fun v w h => h.1)
    · refine OwesG.mk2 (D := Gw) (F' := fun j => ([IsV (.pointer (some ⟨D, 0, none⟩)), IsV (.pointer (some ⟨D, 0, none⟩)), IsV (.pointer (some ⟨D, 0, none⟩)), IsV (.pointer (some ⟨C, 0, none⟩)), IsV (.pointer (some ⟨D, 0, none⟩)), IsV (.pointer (some ⟨D, 0, none⟩)), IsV (.pointer (some ⟨D, 1, none⟩)), IsV (.slice A N c), IsV (.int .i64 (i : Int)), IsV (.pointer (some (ad.add i))), IsV (.int .i64 y), AndV (.tuple #[.int .i64 u, .int .i64 er]) K, IsV (.tuple #[.int .i64 u, .int .i64 er]), IsV (.int .i64 u), IsV (.int .i64 er), IsV (.int .i64 u), IsV (.int .i64 er)] : List (Value → World → Prop)).getD j fun _ _ => True) rfl hGs (fun v w h => h) ?_
      refine owes_vD (Go.Op.extract (Go.Operand.tmp 20) 0) 3 [12] (by kernel_rfl) (by kernel_rfl) (by kernel_rfl) rfl fun vals w1 ρ hG hF hρ hcst hfun => ?_
      have e20 : ρ (.tmp 20) = .tuple #[.int .i64 u, .int .i64 er] := ((hρ 20).trans (slotJ [12] (by rw [hsz]; decide) (by kernel_rfl))).trans (hF 12 (by decide))
      obtain ⟨hG, _⟩ := hG
      clear hρ hF hGs hcst hfun sl0 sl3 fin
      exact opv_val (by go_simp <;> rfl) ⟨gw_self _, rfl⟩
    · refine OwesG.mk2 (D := Gw) (F' := fun j => ([IsV (.pointer (some ⟨D, 0, none⟩)), IsV (.pointer (some ⟨D, 0, none⟩)), IsV (.pointer (some ⟨D, 0, none⟩)), IsV (.pointer (some ⟨C, 0, none⟩)), IsV (.pointer (some ⟨D, 0, none⟩)), IsV (.pointer (some ⟨D, 0, none⟩)), IsV (.pointer (some ⟨D, 1, none⟩)), IsV (.slice A N c), IsV (.int .i64 (i : Int)), IsV (.pointer (some (ad.add i))), IsV (.int .i64 y), AndV (.tuple #[.int .i64 u, .int .i64 er]) K, IsV (.tuple #[.int .i64 u, .int .i64 er]), IsV (.int .i64 u), IsV (.int .i64 er), IsV (.int .i64 u), IsV (.int .i64 er)] : List (Value → World → Prop)).getD j fun _ _ => True) rfl hGs (fun v w h => h) ?_
      refine owes_vD (Go.Op.extract (Go.Operand.tmp 20) 1) 32 [12] (by kernel_rfl) (by kernel_rfl) (by kernel_rfl) rfl fun vals w1 ρ hG hF hρ hcst hfun => ?_
      have e20 : ρ (.tmp 20) = .tuple #[.int .i64 u, .int .i64 er] := ((hρ 20).trans (slotJ [12] (by rw [hsz]; decide) (by kernel_rfl))).trans (hF 12 (by decide))
      obtain ⟨hG, _⟩ := hG
      clear hρ hF hGs hcst hfun sl0 sl3 fin
      exact opv_val (by go_simp <;> rfl) ⟨gw_self _, rfl⟩
    · refine OwesG.mk2 (D := Gw) (F' := fun j => ([IsV (.pointer (some ⟨D, 0, none⟩)), IsV (.pointer (some ⟨D, 0, none⟩)), IsV (.pointer (some ⟨D, 0, none⟩)), IsV (.pointer (some ⟨C, 0, none⟩)), IsV (.pointer (some ⟨D, 0, none⟩)), IsV (.pointer (some ⟨D, 0, none⟩)), IsV (.pointer (some ⟨D, 1, none⟩)), IsV (.slice A N c), IsV (.int .i64 (i : Int)), IsV (.pointer (some (ad.add i))), IsV (.int .i64 y), AndV (.tuple #[.int .i64 u, .int .i64 er]) K, IsV (.tuple #[.int .i64 u, .int .i64 er]), IsV (.int .i64 u), IsV (.int .i64 er), IsV (.int .i64 u), IsV (.int .i64 er)] : List (Value → World → Prop)).getD j fun _ _ => True) rfl hGs (fun v w h => h) ?_
      exact owes_mvjD gw_self 13 33 (by kernel_rfl) (by kernel_rfl) (by kernel_rfl) (by kernel_rfl) (by rw [hsz]; decide) (fun v w h => h)
    · refine OwesG.mk2 (D := Gw) (F' := fun j => ([IsV (.pointer (some ⟨D, 0, none⟩)), IsV (.pointer (some ⟨D, 0, none⟩)), IsV (.pointer (some ⟨D, 0, none⟩)), IsV (.pointer (some ⟨C, 0, none⟩)), IsV (.pointer (some ⟨D, 0, none⟩)), IsV (.pointer (some ⟨D, 0, none⟩)), IsV (.pointer (some ⟨D, 1, none⟩)), IsV (.slice A N c), IsV (.int .i64 (i : Int)), IsV (.pointer (some (ad.add i))), IsV (.int .i64 y), AndV (.tuple #[.int .i64 u, .int .i64 er]) K, IsV (.tuple #[.int .i64 u, .int .i64 er]), IsV (.int .i64 u), IsV (.int .i64 er), IsV (.int .i64 u), IsV (.int .i64 er)] : List (Value → World → Prop)).getD j fun _ _ => True) rfl hGs (fun v w h => h) ?_
      exact owes_mvjD gw_self 14 34 (by kernel_rfl) (by kernel_rfl) (by kernel_rfl) (by kernel_rfl) (by rw [hsz]; decide) (fun v w h => h)
  · intro vals w1 hG hF
    exact fin vals w1 hG (hF 15 (by decide +kernel)) (hF 16 (by decide +kernel)) (hF 11 (by decide +kernel))
theorem oc7 (Q : Exit → Act → World → Prop) (a0 : Act) (w : World) (D C : Nat) (G : Nat → Prop) (y u er : Int) (K : World → Prop) (hQ : D < w.heap.size) (hQn : ¬ G D) (c0 : w.cell? ⟨D, 0, none⟩ = some (.pointer (some ⟨C, 0, none⟩))) (c3 : w.cell? ⟨D, 3, none⟩ = some (.int .i64 y)) (hK : ∀ a b, K a → Gw a b → K b) (hp : Hid (∀ W, Below w.heap.size w W → Calls Try.prog 52 #[.pointer (some ⟨C, 0, none⟩), .int .i64 y] W (fun e w2 => ∃ v, e = .returned v ∧ Kept G W w2 ∧ AndV (.tuple #[.int .i64 u, .int .i64 er]) K v w2))) (hsz : a0.tmps.size = 74) (sl0 : a0.tmps.getD 0 undef = .pointer (some ⟨D, 0, none⟩))
    (fin : ∀ (vals : Nat → Value) (w1 : World), Kept G w w1 → (IsV (.int .i64 u)) (vals 12) w1 → (IsV (.int .i64 er)) (vals 13) w1 → (AndV (.tuple #[.int .i64 u, .int .i64 er]) K) (vals 8) w1 → Q .normal (putO vals [some 49, some 50, some 51, some 52, some 53, some 54, some 55, some 56, some 57, some 48, some 58, some 59, some 6, some 7] 0 a0) w1) :
    (Code.region 7 (regIn Try.f42 7) true).wp Try.prog Q a0 w := by
  have hGs : ∀ (j : Nat) (v : Value) (w3 : World), (srcOf [] j = j → (([IsV (.pointer (some ⟨D, 0, none⟩)), IsV (.pointer (some ⟨D, 0, none⟩)), IsV (.pointer (some ⟨D, 0, none⟩)), IsV (.pointer (some ⟨C, 0, none⟩)), IsV (.pointer (some ⟨D, 0, none⟩)), IsV (.pointer (some ⟨D, 0, none⟩)), IsV (.pointer (some ⟨D, 3, none⟩)), IsV (.int .i64 y), AndV (.tuple #[.int .i64 u, .int .i64 er]) K, IsV (.tuple #[.int .i64 u, .int .i64 er]), IsV (.int .i64 u), IsV (.int .i64 er), IsV (.int .i64 u), IsV (.int .i64 er)] : List (Value → World → Prop)).getD j fun _ _ => True) v w3) → (([IsV (.pointer (some ⟨D, 0, none⟩)), IsV (.pointer (some ⟨D, 0, none⟩)), IsV (.pointer (some ⟨D, 0, none⟩)), IsV (.pointer (some ⟨C, 0, none⟩)), IsV (.pointer (some ⟨D, 0, none⟩)), IsV (.pointer (some ⟨D, 0, none⟩)), IsV (.pointer (some ⟨D, 3, none⟩)), IsV (.int .i64 y), AndV (.tuple #[.int .i64 u, .int .i64 er]) K, IsV (.tuple #[.int .i64 u, .int .i64 er]), IsV (.int .i64 u), IsV (.int .i64 er), IsV (.int .i64 u), IsV (.int .i64 er)] : List (Value → World → Prop)).getD j fun _ _ => True) v w3 := by
    intro j v w3 h
    match j, h with
    | 0, h => exact h rfl
    | 1, h => exact h rfl
    | 2, h => exact h rfl
    | 3, h => exact h rfl
    | 4, h => exact h rfl
    | 5, h => exact h rfl
    | 6, h => exact h rfl
    | 7, h => exact h rfl
    | 8, h => exact h rfl
    | 9, h => exact h rfl
    | 10, h => exact h rfl
    | 11, h => exact h rfl
    | 12, h => exact h rfl
    | 13, h => exact h rfl
    | _ + 14, _ => exact trivial
  refine region_byK [IsV (.pointer (some ⟨D, 0, none⟩)),
    IsV (.pointer (some ⟨D, 0, none⟩)),
    IsV (.pointer (some ⟨D, 0, none⟩)),
    IsV (.pointer (some ⟨C, 0, none⟩)),
    IsV (.pointer (some ⟨D, 0, none⟩)),
    IsV (.pointer (some ⟨D, 0, none⟩)),
    IsV (.pointer (some ⟨D, 3, none⟩)),
    IsV (.int .i64 y),
    AndV (.tuple #[.int .i64 u, .int .i64 er]) K,
    IsV (.tuple #[.int .i64 u, .int .i64 er]),
    IsV (.int .i64 u),
    IsV (.int .i64 er),
    IsV (.int .i64 u),
    IsV (.int .i64 er)] [(8, fun w w1 => Kept G w w1)] []
    [some 49, some 50, some 51, some 52, some 53, some 54, some 55, some 56, some 57, some 48, some 58, some 59, some 6, some 7] (fun w1 => Kept G w w1) (by kernel_rfl) (Kept.of_below (Gw.drew _) _) (fun _ _ h g => h.trans (Kept.of_below g _)) 8 (fun w1 => Below w.heap.size w w1) (Gw.drew _) (fun _ _ h g => h.trans (Below.mono g h.size)) (by intro p hp; simp only [List.mem_cons, List.not_mem_nil, or_false] at hp; subst hp; rfl) (by rw [hsz]; kernel_rfl) (by kernel_rfl) (by kernel_rfl) ?_ ?_ ?_ ?_
  · intro f hf
    simp only [List.mem_cons, List.not_mem_nil, or_false] at hf
    rcases hf with rfl | rfl | rfl | rfl | rfl | rfl | rfl | rfl | rfl | rfl | rfl | rfl | rfl | rfl <;> intro v a b h g <;> first | exact IsV.mono h | exact BoxV.mono h g | exact BoxC.mono h g | exact AndV.mono hK h g
  · intro p hp
    simp only [List.mem_cons, List.not_mem_nil, or_false] at hp
    rcases hp with rfl
    · refine ⟨fun a b h1 h2 => h1.trans h2, ?_⟩
      intro f hf
      simp only [List.eraseIdx_cons_succ, List.eraseIdx_cons_zero, List.mem_cons, List.not_mem_nil, or_false] at hf
      rcases hf with rfl | rfl | rfl | rfl | rfl | rfl | rfl | rfl | rfl | rfl | rfl | rfl | rfl <;> intro v a b h g <;> exact h
  · refine ⟨?_, ?_, ?_, ?_, ?_, ?_, ?_, ?_, ?_, ?_, ?_, ?_, ?_, ?_, trivial⟩
    · refine OwesG.mk2 (D := Gw) (F' := fun j => ([IsV (.pointer (some ⟨D, 0, none⟩)), IsV (.pointer (some ⟨D, 0, none⟩)), IsV (.pointer (some ⟨D, 0, none⟩)), IsV (.pointer (some ⟨C, 0, none⟩)), IsV (.pointer (some ⟨D, 0, none⟩)), IsV (.pointer (some ⟨D, 0, none⟩)), IsV (.pointer (some ⟨D, 3, none⟩)), IsV (.int .i64 y), AndV (.tuple #[.int .i64 u, .int .i64 er]) K, IsV (.tuple #[.int .i64 u, .int .i64 er]), IsV (.int .i64 u), IsV (.int .i64 er), IsV (.int .i64 u), IsV (.int .i64 er)] : List (Value → World → Prop)).getD j fun _ _ => True) rfl hGs (fun v w h => h) ?_
      exact owes_mvD gw_self 0 (by kernel_rfl) (by kernel_rfl) (by kernel_rfl) sl0 (fun _ => rfl)
    · refine OwesG.mk2 (D := Gw) (F' := fun j => ([IsV (.pointer (some ⟨D, 0, none⟩)), IsV (.pointer (some ⟨D, 0, none⟩)), IsV (.pointer (some ⟨D, 0, none⟩)), IsV (.pointer (some ⟨C, 0, none⟩)), IsV (.pointer (some ⟨D, 0, none⟩)), IsV (.pointer (some ⟨D, 0, none⟩)), IsV (.pointer (some ⟨D, 3, none⟩)), IsV (.int .i64 y), AndV (.tuple #[.int .i64 u, .int .i64 er]) K, IsV (.tuple #[.int .i64 u, .int .i64 er]), IsV (.int .i64 u), IsV (.int .i64 er), IsV (.int .i64 u), IsV (.int .i64 er)] : List (Value → World → Prop)).getD j fun _ _ => True) rfl hGs (fun v w h => h) ?_
      refine owes_vD (Go.Op.nilCheck (Go.Operand.tmp 49)) 0 [0] (by kernel_rfl) (by kernel_rfl) (by kernel_rfl) rfl fun vals w1 ρ hG hF hρ hcst hfun => ?_
      have e49 : ρ (.tmp 49) = .pointer (some ⟨D, 0, none⟩) := ((hρ 49).trans (slotJ [0] (by rw [hsz]; decide) (by kernel_rfl))).trans (hF 0 (by decide))
      obtain ⟨hG, _⟩ := hG
      clear hρ hF hGs hcst hfun sl0 fin
      exact opv_val (by go_simp <;> rfl) ⟨gw_self _, rfl⟩
    · refine OwesG.mk2 (D := Gw) (F' := fun j => ([IsV (.pointer (some ⟨D, 0, none⟩)), IsV (.pointer (some ⟨D, 0, none⟩)), IsV (.pointer (some ⟨D, 0, none⟩)), IsV (.pointer (some ⟨C, 0, none⟩)), IsV (.pointer (some ⟨D, 0, none⟩)), IsV (.pointer (some ⟨D, 0, none⟩)), IsV (.pointer (some ⟨D, 3, none⟩)), IsV (.int .i64 y), AndV (.tuple #[.int .i64 u, .int .i64 er]) K, IsV (.tuple #[.int .i64 u, .int .i64 er]), IsV (.int .i64 u), IsV (.int .i64 er), IsV (.int .i64 u), IsV (.int .i64 er)] : List (Value → World → Prop)).getD j fun _ _ => True) rfl hGs (fun v w h => h) ?_
      refine owes_vD (Go.Op.fieldAddr 84 (Go.Operand.tmp 50) 0) 0 [1] (by kernel_rfl) (by kernel_rfl) (by kernel_rfl) rfl fun vals w1 ρ hG hF hρ hcst hfun => ?_
      have e50 : ρ (.tmp 50) = .pointer (some ⟨D, 0, none⟩) := ((hρ 50).trans (slotJ [1] (by rw [hsz]; decide) (by kernel_rfl))).trans (hF 1 (by decide))
      obtain ⟨hG, _⟩ := hG
      clear hρ hF hGs hcst hfun sl0 fin
      exact opv_val (by go_simp <;> rfl) ⟨gw_self _, rfl⟩
    · refine OwesG.mk2 (D := Gw) (F' := fun j => ([IsV (.pointer (some ⟨D, 0, none⟩)), IsV (.pointer (some ⟨D, 0, none⟩)), IsV (.pointer (some ⟨D, 0, none⟩)), IsV (.pointer (some ⟨C, 0, none⟩)), IsV (.pointer (some ⟨D, 0, none⟩)), IsV (.pointer (some ⟨D, 0, none⟩)), IsV (.pointer (some ⟨D, 3, none⟩)), IsV (.int .i64 y), AndV (.tuple #[.int .i64 u, .int .i64 er]) K, IsV (.tuple #[.int .i64 u, .int .i64 er]), IsV (.int .i64 u), IsV (.int .i64 er), IsV (.int .i64 u), IsV (.int .i64 er)] : List (Value → World → Prop)).getD j fun _ _ => True) rfl hGs (fun v w h => h) ?_
      refine owes_vD (Go.Op.load 79 (Go.Operand.tmp 51)) 79 [2] (by kernel_rfl) (by kernel_rfl) (by kernel_rfl) rfl fun vals w1 ρ hG hF hρ hcst hfun => ?_
      have e51 : ρ (.tmp 51) = .pointer (some ⟨D, 0, none⟩) := ((hρ 51).trans (slotJ [2] (by rw [hsz]; decide) (by kernel_rfl))).trans (hF 2 (by decide))
      obtain ⟨hG, _⟩ := hG
      have k := (hG.cell (p := ⟨D, 0, none⟩) hQ hQn).trans c0
      clear hρ hF hGs hcst hfun sl0 fin
      exact opv_val (by go_simp <;> rfl) ⟨gw_self _, rfl⟩
    · refine OwesG.mk2 (D := Gw) (F' := fun j => ([IsV (.pointer (some ⟨D, 0, none⟩)), IsV (.pointer (some ⟨D, 0, none⟩)), IsV (.pointer (some ⟨D, 0, none⟩)), IsV (.pointer (some ⟨C, 0, none⟩)), IsV (.pointer (some ⟨D, 0, none⟩)), IsV (.pointer (some ⟨D, 0, none⟩)), IsV (.pointer (some ⟨D, 3, none⟩)), IsV (.int .i64 y), AndV (.tuple #[.int .i64 u, .int .i64 er]) K, IsV (.tuple #[.int .i64 u, .int .i64 er]), IsV (.int .i64 u), IsV (.int .i64 er), IsV (.int .i64 u), IsV (.int .i64 er)] : List (Value → World → Prop)).getD j fun _ _ => True) rfl hGs (fun v w h => h) ?_
      exact owes_mvD gw_self 0 (by kernel_rfl) (by kernel_rfl) (by kernel_rfl) sl0 (fun _ => rfl)
    · refine OwesG.mk2 (D := Gw) (F' := fun j => ([IsV (.pointer (some ⟨D, 0, none⟩)), IsV (.pointer (some ⟨D, 0, none⟩)), IsV (.pointer (some ⟨D, 0, none⟩)), IsV (.pointer (some ⟨C, 0, none⟩)), IsV (.pointer (some ⟨D, 0, none⟩)), IsV (.pointer (some ⟨D, 0, none⟩)), IsV (.pointer (some ⟨D, 3, none⟩)), IsV (.int .i64 y), AndV (.tuple #[.int .i64 u, .int .i64 er]) K, IsV (.tuple #[.int .i64 u, .int .i64 er]), IsV (.int .i64 u), IsV (.int .i64 er), IsV (.int .i64 u), IsV (.int .i64 er)] : List (Value → World → Prop)).getD j fun _ _ => True) rfl hGs (fun v w h => h) ?_
      refine owes_vD (Go.Op.nilCheck (Go.Operand.tmp 53)) 0 [4] (by kernel_rfl) (by kernel_rfl) (by kernel_rfl) rfl fun vals w1 ρ hG hF hρ hcst hfun => ?_
      have e53 : ρ (.tmp 53) = .pointer (some ⟨D, 0, none⟩) := ((hρ 53).trans (slotJ [4] (by rw [hsz]; decide) (by kernel_rfl))).trans (hF 4 (by decide))
      obtain ⟨hG, _⟩ := hG
      clear hρ hF hGs hcst hfun sl0 fin
      exact opv_val (by go_simp <;> rfl) ⟨gw_self _, rfl⟩
    · refine OwesG.mk2 (D := Gw) (F' := fun j => ([IsV (.pointer (some ⟨D, 0, none⟩)), IsV (.pointer (some ⟨D, 0, none⟩)), IsV (.pointer (some ⟨D, 0, none⟩)), IsV (.pointer (some ⟨C, 0, none⟩)), IsV (.pointer (some ⟨D, 0, none⟩)), IsV (.pointer (some ⟨D, 0, none⟩)), IsV (.pointer (some ⟨D, 3, none⟩)), IsV (.int .i64 y), AndV (.tuple #[.int .i64 u, .int .i64 er]) K, IsV (.tuple #[.int .i64 u, .int .i64 er]), IsV (.int .i64 u), IsV (.int .i64 er), IsV (.int .i64 u), IsV (.int .i64 er)] : List (Value → World → Prop)).getD j fun _ _ => True) rfl hGs (fun v w h => h) ?_
      refine owes_vD (Go.Op.fieldAddr 84 (Go.Operand.tmp 54) 3) 0 [5] (by kernel_rfl) (by kernel_rfl) (by kernel_rfl) rfl fun vals w1 ρ hG hF hρ hcst hfun => ?_
      have e54 : ρ (.tmp 54) = .pointer (some ⟨D, 0, none⟩) := ((hρ 54).trans (slotJ [5] (by rw [hsz]; decide) (by kernel_rfl))).trans (hF 5 (by decide))
      obtain ⟨hG, _⟩ := hG
      clear hρ hF hGs hcst hfun sl0 fin
      exact opv_val (by go_simp <;> rfl) ⟨gw_self _, rfl⟩
    · refine OwesG.mk2 (D := Gw) (F' := fun j => ([IsV (.pointer (some ⟨D, 0, none⟩)), IsV (.pointer (some ⟨D, 0, none⟩)), IsV (.pointer (some ⟨D, 0, none⟩)), IsV (.pointer (some ⟨C, 0, none⟩)), IsV (.pointer (some ⟨D, 0, none⟩)), IsV (.pointer (some ⟨D, 0, none⟩)), IsV (.pointer (some ⟨D, 3, none⟩)), IsV (.int .i64 y), AndV (.tuple #[.int .i64 u, .int .i64 er]) K, IsV (.tuple #[.int .i64 u, .int .i64 er]), IsV (.int .i64 u), IsV (.int .i64 er), IsV (.int .i64 u), IsV (.int .i64 er)] : List (Value → World → Prop)).getD j fun _ _ => True) rfl hGs (fun v w h => h) ?_
      refine owes_vD (Go.Op.load 3 (Go.Operand.tmp 55)) 3 [6] (by kernel_rfl) (by kernel_rfl) (by kernel_rfl) rfl fun vals w1 ρ hG hF hρ hcst hfun => ?_
      have e55 : ρ (.tmp 55) = .pointer (some ⟨D, 3, none⟩) := ((hρ 55).trans (slotJ [6] (by rw [hsz]; decide) (by kernel_rfl))).trans (hF 6 (by decide))
      obtain ⟨hG, _⟩ := hG
      have k := (hG.cell (p := ⟨D, 3, none⟩) hQ hQn).trans c3
      clear hρ hF hGs hcst hfun sl0 fin
      exact opv_val (by go_simp <;> rfl) ⟨gw_self _, rfl⟩
    · refine OwesG.mk2 (D := fun w w1 => Kept G w w1) (F' := fun j => ([IsV (.pointer (some ⟨D, 0, none⟩)), IsV (.pointer (some ⟨D, 0, none⟩)), IsV (.pointer (some ⟨D, 0, none⟩)), IsV (.pointer (some ⟨C, 0, none⟩)), IsV (.pointer (some ⟨D, 0, none⟩)), IsV (.pointer (some ⟨D, 0, none⟩)), IsV (.pointer (some ⟨D, 3, none⟩)), IsV (.int .i64 y), AndV (.tuple #[.int .i64 u, .int .i64 er]) K, IsV (.tuple #[.int .i64 u, .int .i64 er]), IsV (.int .i64 u), IsV (.int .i64 er), IsV (.int .i64 u), IsV (.int .i64 er)] : List (Value → World → Prop)).getD j fun _ _ => True) rfl hGs (fun v w h => h) ?_
      refine owes_vD (Go.Op.call { callee := Go.Callee.value (Go.Operand.func 52), args := #[Go.Operand.tmp 52, Go.Operand.tmp 56], argTypes := #[79, 3] }) 73 [3, 7] (by kernel_rfl) (by kernel_rfl) (by kernel_rfl) rfl fun vals w1 ρ hG hF hρ hcst hfun => ?_
      have e52 : ρ (.tmp 52) = .pointer (some ⟨C, 0, none⟩) := ((hρ 52).trans (slotJ [3, 7] (by rw [hsz]; decide) (by kernel_rfl))).trans (hF 3 (by decide))
      have e56 : ρ (.tmp 56) = .int .i64 y := ((hρ 56).trans (slotJ [3, 7] (by rw [hsz]; decide) (by kernel_rfl))).trans (hF 7 (by decide))
      obtain ⟨hG, hPre⟩ := hG; have hPre : Below w.heap.size w w1 := hPre
      clear hρ hF hGs hcst sl0 fin
      exact opv_enter (by go_simp <;> rfl) (hp.out w1 hPre)
    · refine OwesG.mk2 (D := Gw) (F' := fun j => ([IsV (.pointer (some ⟨D, 0, none⟩)), IsV (.pointer (some ⟨D, 0, none⟩)), IsV (.pointer (some ⟨D, 0, none⟩)), IsV (.pointer (some ⟨C, 0, none⟩)), IsV (.pointer (some ⟨D, 0, none⟩)), IsV (.pointer (some ⟨D, 0, none⟩)), IsV (.pointer (some ⟨D, 3, none⟩)), IsV (.int .i64 y), AndV (.tuple #[.int .i64 u, .int .i64 er]) K, IsV (.tuple #[.int .i64 u, .int .i64 er]), IsV (.int .i64 u), IsV (.int .i64 er), IsV (.int .i64 u), IsV (.int .i64 er)] : List (Value → World → Prop)).getD j fun _ _ => True) rfl hGs (fun v w h => h) ?_
      exact owes_mvjD gw_self 8 57 (by kernel_rfl) (by kernel_rfl) (by kernel_rfl) (by kernel_rfl) (by rw [hsz]; decide) (fun v w h => h.1)
    · refine OwesG.mk2 (D := Gw) (F' := fun j => ([IsV (.pointer (some ⟨D, 0, none⟩)), IsV (.pointer (some ⟨D, 0, none⟩)), IsV (.pointer (some ⟨D, 0, none⟩)), IsV (.pointer (some ⟨C, 0, none⟩)), IsV (.pointer (some ⟨D, 0, none⟩)), IsV (.pointer (some ⟨D, 0, none⟩)), IsV (.pointer (some ⟨D, 3, none⟩)), IsV (.int .i64 y), AndV (.tuple #[.int .i64 u, .int .i64 er]) K, IsV (.tuple #[.int .i64 u, .int .i64 er]), IsV (.int .i64 u), IsV (.int .i64 er), IsV (.int .i64 u), IsV (.int .i64 er)] : List (Value → World → Prop)).getD j fun _ _ => True) rfl hGs (fun v w h => h) ?_
      refine owes_vD (Go.Op.extract (Go.Operand.tmp 48) 0) 3 [9] (by kernel_rfl) (by kernel_rfl) (by kernel_rfl) rfl fun vals w1 ρ hG hF hρ hcst hfun => ?_
      have e48 : ρ (.tmp 48) = .tuple #[.int .i64 u, .int .i64 er] := ((hρ 48).trans (slotJ [9] (by rw [hsz]; decide) (by kernel_rfl))).trans (hF 9 (by decide))
      obtain ⟨hG, _⟩ := hG
      clear hρ hF hGs hcst hfun sl0 fin
      exact opv_val (by go_simp <;> rfl) ⟨gw_self _, rfl⟩
    · refine OwesG.mk2 (D := Gw) (F' := fun j => ([IsV (.pointer (some ⟨D, 0, none⟩)), IsV (.pointer (some ⟨D, 0, none⟩)), IsV (.pointer (some ⟨D, 0, none⟩)), IsV (.pointer (some ⟨C, 0, none⟩)), IsV (.pointer (some ⟨D, 0, none⟩)), IsV (.pointer (some ⟨D, 0, none⟩)), IsV (.pointer (some ⟨D, 3, none⟩)), IsV (.int .i64 y), AndV (.tuple #[.int .i64 u, .int .i64 er]) K, IsV (.tuple #[.int .i64 u, .int .i64 er]), IsV (.int .i64 u), IsV (.int .i64 er), IsV (.int .i64 u), IsV (.int .i64 er)] : List (Value → World → Prop)).getD j fun _ _ => True) rfl hGs (fun v w h => h) ?_
      refine owes_vD (Go.Op.extract (Go.Operand.tmp 48) 1) 32 [9] (by kernel_rfl) (by kernel_rfl) (by kernel_rfl) rfl fun vals w1 ρ hG hF hρ hcst hfun => ?_
      have e48 : ρ (.tmp 48) = .tuple #[.int .i64 u, .int .i64 er] := ((hρ 48).trans (slotJ [9] (by rw [hsz]; decide) (by kernel_rfl))).trans (hF 9 (by decide))
      obtain ⟨hG, _⟩ := hG
      clear hρ hF hGs hcst hfun sl0 fin
      exact opv_val (by go_simp <;> rfl) ⟨gw_self _, rfl⟩
    · refine OwesG.mk2 (D := Gw) (F' := fun j => ([IsV (.pointer (some ⟨D, 0, none⟩)), IsV (.pointer (some ⟨D, 0, none⟩)), IsV (.pointer (some ⟨D, 0, none⟩)), IsV (.pointer (some ⟨C, 0, none⟩)), IsV (.pointer (some ⟨D, 0, none⟩)), IsV (.pointer (some ⟨D, 0, none⟩)), IsV (.pointer (some ⟨D, 3, none⟩)), IsV (.int .i64 y), AndV (.tuple #[.int .i64 u, .int .i64 er]) K, IsV (.tuple #[.int .i64 u, .int .i64 er]), IsV (.int .i64 u), IsV (.int .i64 er), IsV (.int .i64 u), IsV (.int .i64 er)] : List (Value → World → Prop)).getD j fun _ _ => True) rfl hGs (fun v w h => h) ?_
      exact owes_mvjD gw_self 10 58 (by kernel_rfl) (by kernel_rfl) (by kernel_rfl) (by kernel_rfl) (by rw [hsz]; decide) (fun v w h => h)
    · refine OwesG.mk2 (D := Gw) (F' := fun j => ([IsV (.pointer (some ⟨D, 0, none⟩)), IsV (.pointer (some ⟨D, 0, none⟩)), IsV (.pointer (some ⟨D, 0, none⟩)), IsV (.pointer (some ⟨C, 0, none⟩)), IsV (.pointer (some ⟨D, 0, none⟩)), IsV (.pointer (some ⟨D, 0, none⟩)), IsV (.pointer (some ⟨D, 3, none⟩)), IsV (.int .i64 y), AndV (.tuple #[.int .i64 u, .int .i64 er]) K, IsV (.tuple #[.int .i64 u, .int .i64 er]), IsV (.int .i64 u), IsV (.int .i64 er), IsV (.int .i64 u), IsV (.int .i64 er)] : List (Value → World → Prop)).getD j fun _ _ => True) rfl hGs (fun v w h => h) ?_
      exact owes_mvjD gw_self 11 59 (by kernel_rfl) (by kernel_rfl) (by kernel_rfl) (by kernel_rfl) (by rw [hsz]; decide) (fun v w h => h)
  · intro vals w1 hG hF
    exact fin vals w1 hG (hF 12 (by decide +kernel)) (hF 13 (by decide +kernel)) (hF 8 (by decide +kernel))
theorem ow_slc {α : Type} {f : α → Value} {E : TypeId} {w : World} {base : Nat} {v : Value} {xs : List α} (h : Ow f E w base v xs) : ∃ A n c, v = .slice A n c := by
  obtain ⟨A, c, e, _⟩ := h.form
  exact ⟨A, _, c, e⟩
def OnceP (w : World) (B : Nat) (S : Nat → Prop) (Q : Nat) (f : CoF) (roots : List Int) (xw : Value) (s : Sc) (n : Int) (x : Option Sc) (r : Ending) (w' : World) : Prop := match x with
  | some s' => r = .returned (.int .i64 0) ∧ Kept S w w' ∧ ∃ (S' : Nat → Prop) (xw' : Value), CoAt w' B S' Q f roots xw' s' (n + 1) false ∧ ∀ k, S' k → S k ∨ w.heap.size ≤ k
  | none => r = .returned (.int .i64 6) ∧ Kept S w w' ∧ ∃ s', CoAt w' B S Q f roots xw s' n false
section
variable {B Q : Nat} {S : Nat → Prop} {f : CoF} {roots : List Int} {xw : Value} {s : Sc} {n : Int} {l : List Nat}
theorem CoAt.cys {w : World} {full : Bool} (p : CoAt w B S Q f roots xw s n full) : (∀ k, CyS f.s2 f.v1 f.v2 k → S k ∧ k < f.C) ∧ ¬ CyS f.s2 f.v1 f.v2 Q := by
  refine ⟨fun k hk => ⟨?_, p.cy.lt_C k hk⟩, CyS.not_ge p.cy.lt_C (Nat.le_of_lt p.CQ)⟩
  rcases hk with h | h | h
  · exact p.inc k (by simp [h])
  · exact p.inc k (by simp [h])
  · exact p.inc k (by simp [h])
theorem CoAt.toCy {w w' : World} {full : Bool} {d : Cy} (p : CoAt w B S Q f roots xw s n full) (k : Kept (CyS f.s2 f.v1 f.v2) w w') (c : CyAt w' B f.H1 f.H2 f.C f.s1 f.g1 f.v1 f.s2 f.g2 f.v2 f.b f.t f.e d) : CoAt w' B S Q f roots xw ⟨d, s.qs, s.sc⟩ n full := by
  obtain ⟨h1, h2⟩ := p.cys
  refine ⟨c, k.bk p.blk h2, k.ow p.rr (fun j hj hs => ?_), k.ow p.ww (fun j hj hs => ?_), p.CQ, p.ne, p.neR, fun j hj => ⟨(p.own j hj).1, Nat.lt_of_lt_of_le (p.own j hj).2 k.size⟩, p.inc⟩
  · have := (p.rr.lt j hj).1; have := (h1 j hs).2; omega
  · have := (p.ww.lt j hj).1; have := (h1 j hs).2; omega
/-- What is turned when a root's new place is appended. -/
theorem CoAt.push {w4 w6 : World} {o : Obj} {v6 : Value} {d : Cy} {u : Int} {q : Nat} (p : CoAt w4 B S Q f roots xw ⟨d, s.qs, s.sc⟩ n false) (ho : Ow zV 3 w6 (f.C + 1) v6 (backZ s.qs ++ [u])) (hg : (w4.alloc o).grownBy w6 xw.ownBlock) (hv : v6.ownBlock = xw.ownBlock ∨ v6.ownBlock = some (w4.alloc o).heap.size) (hu : u = (q : Int) - 1) :
    Kept S w4 ((w6.setCell ⟨Q, 2, none⟩ v6).setCell ⟨Q, 4, none⟩ (.int .u64 (n + 1))) ∧ CoAt ((w6.setCell ⟨Q, 2, none⟩ v6).setCell ⟨Q, 4, none⟩ (.int .u64 (n + 1))) B (fun k => S k ∨ v6.ownBlock = some k) Q f roots v6 ⟨d, s.qs ++ [q], s.sc⟩ (n + 1) false ∧ ∀ k, v6.ownBlock = some k → S k ∨ w4.heap.size ≤ k := by
  have hsz : w4.heap.size ≤ (w4.alloc o).heap.size := (Gw.alloc w4 o).size
  have K1 := Kept.grown hg
  have K2 := Kept.set w6 Q 2 v6
  have K3 := Kept.set (w6.setCell ⟨Q, 2, none⟩ v6) Q 4 (.int .u64 (n + 1))
  have hQ := p.blk.lt
  have hxw := fun j hj => (p.ww.lt j hj)
  have hxr := fun j hj => (p.rr.lt j hj)
  have SQ : S Q := p.inc Q (by simp)
  have Sx : ∀ k, xw.ownBlock = some k → S k := fun k hk => p.inc k (by simp [hk])
  have n6 : ∀ k, v6.ownBlock = some k → k ≠ Q ∧ f.xr.ownBlock ≠ some k ∧ (S k ∨ w4.heap.size ≤ k) := by
    intro k hk
    rcases hv with h | h
    · rw [hk] at h
      obtain ⟨h1, h2⟩ := p.ne k h.symm
      exact ⟨h1, h2, .inl (Sx k h.symm)⟩
    · rw [hk] at h
      injection h with h
      exact ⟨by omega, fun e => by have := (hxr _ e).2; omega, .inr (by omega)⟩
  have s1 := K1.size
  have s2 := K2.size
  have s3 := K3.size
  have hq : backZ s.qs ++ [u] = backZ (s.qs ++ [q]) := by simp [backZ, hu]
  rw [hq] at ho
  have q1 := p.cy.BH
  have q2 := p.cy.s2H
  have q3 := p.cy.HC
  have q4 := p.CQ
  refine ⟨?_, ⟨?_, ?_, ?_, ?_, p.CQ, fun k hk => ⟨(n6 k hk).1, (n6 k hk).2.1⟩, p.neR, ?_, ?_⟩, fun k hk => (n6 k hk).2.2⟩
  · exact (((Kept.alloc S w4 o).trans (K1.more Sx)).trans (K2.more fun k e => by rw [e]; exact SQ)).trans (K3.more fun k e => by rw [e]; exact SQ)
  · exact (((p.cy.below (Gw.alloc w4 o)).kept K1 (fun j hj => by have := (hxw j hj).1; omega)).kept K2 (fun j hj => by omega)).kept K3 (fun j hj => by omega)
  · exact (((p.blk.alloc o).grown hg (fun e => (p.ne Q e.symm).1 rfl)).set 2 v6).set 4 (.int .u64 (n + 1))
  · exact K3.ow (K2.ow (K1.ow (p.rr.alloc o) (fun k hk e => (p.ne k e).2 hk)) (fun k hk e => p.neR (e ▸ hk))) (fun k hk e => p.neR (e ▸ hk))
  · exact K3.ow (K2.ow ho (fun k hk e => (n6 k hk).1 e)) (fun k hk e => (n6 k hk).1 e)
  · rintro k (h | h)
    · have := p.own k h; omega
    · have := ho.lt k h; omega
  · rintro k (h | h | h | h | h | h | h | h | h | h)
    · exact .inl (p.inc k (by simp [h]))
    · exact .inl (p.inc k (by simp [h]))
    · exact .inl (p.inc k (by simp [h]))
    · exact .inl (p.inc k (by simp [h]))
    · exact .inl (p.inc k (by simp [h]))
    · exact .inl (p.inc k (by simp [h]))
    · exact .inl (p.inc k (by simp [h]))
    · exact .inl (p.inc k (by simp [h]))
    · exact .inl (p.inc k (by simp [h]))
    · exact .inr h
theorem once_root (w : World) (p : CoAt w B S Q f roots xw s n false) (hL : LenC s.c) (hO : OkC l f.b f.t s.c) (hrl : roots.length ≤ 100000) (hq : s.qs.length < roots.length) (y : Int) (hy : roots[s.qs.length] = y) (hyp : y = (rootP y : Int) - 1) (hyk : rootP y = 0 ∨ (1 ≤ rootP y ∧ rootP y - 1 ∈ l)) (hn0 : 0 ≤ n) (hn1 : n < 9223372036854775807) :
    Calls Try.prog 42 #[.pointer (some ⟨Q, 0, none⟩)] w (OnceP w B S Q f roots xw s n ((takeP s.c (rootP y)).map fun r => ⟨r.2, s.qs ++ [r.1], s.sc⟩)) := by
  obtain ⟨A, c, A2, c2, e1, e2⟩ := p.form
  have hk := p.blk
  rw [e1, e2] at hk
  obtain ⟨k0, k1, k2, k3, k4, k5⟩ := hk.six
  have hrd := p.rr
  rw [e2] at hrd
  obtain ⟨ad, rfl, hlt, hcr⟩ := hrd.rd s.qs.length hq
  rw [hy] at hcr
  have hlt : (ad.add s.qs.length).block < w.heap.size := by rw [add_block]; exact hlt
  have hbC : f.C < (ad.add s.qs.length).block := by
    have hf := hrd.form
    rw [add_block]
    rcases hrd.2 with ⟨e, _⟩ | ⟨g, cap, cur, e, hB, _⟩
    · cases e
    · injection e with e3
      injection e3 with e4
      rw [e4]; exact hB
  obtain ⟨cc1, cc2⟩ := p.cys
  have hQ := p.blk.lt
  have hrn : ¬ CyS f.s2 f.v1 f.v2 (ad.add s.qs.length).block := fun h => by have := (cc1 _ h).2; omega
  have HTk := Lib.hid (fun W (hb : Below w.heap.size w W) => takeP_c W (p.cy.below hb) hL hO (rootP y) hyk)
  rw [← hyp] at HTk
  have HP := Lib.hid p
  obtain ⟨i, hi⟩ : ∃ i, i = s.qs.length := ⟨_, rfl⟩
  obtain ⟨N, hN⟩ : ∃ N, N = roots.length := ⟨_, rfl⟩
  obtain ⟨C, hC⟩ : ∃ C, C = f.C := ⟨_, rfl⟩
  have HI := Lib.hid (And.intro hi (And.intro hN (And.intro hC (And.intro e1 e2))))
  rw [← hi] at hcr hlt hrn hq
  rw [← hN] at hq
  rw [← hi] at k2
  rw [← hN] at k1
  rw [← hC] at k0
  have hp : Hid (∀ W, Below w.heap.size w W → Calls Try.prog 51 #[.pointer (some ⟨C, 0, none⟩), .int .i64 y] W (TakeR W B f.H1 f.H2 f.C f.s1 f.g1 f.v1 f.s2 f.g2 f.v2 f.b f.t f.e s.c (takeP s.c (rootP y)))) := by rw [hC]; exact HTk
  obtain ⟨G, hG⟩ : ∃ G, G = CyS f.s2 f.v1 f.v2 := ⟨_, rfl⟩
  rw [← hG] at hrn cc2
  have HGe := Lib.hid hG
  have t1 : (i : Int) < (N : Int) := by omega
  have t2 : (N : Int) ≤ 100000 := by omega
  have t0 : (0 : Int) ≤ (i : Int) := by omega
  clear hk hrd hL hO hy hyk hyp hi hN hC hbC cc1 HTk e1 e2 p hrl hG
  cases hr : takeP s.c (rootP y) with
  | none =>
    rw [hr] at hp
    have HA : Hid (∀ W, Below w.heap.size w W → Calls Try.prog 51 #[.pointer (some ⟨C, 0, none⟩), .int .i64 y] W (fun e w2 => ∃ v, e = .returned v ∧ Kept G W w2 ∧ AndV (.tuple #[.int .i64 0, .int .i64 6]) (fun z => CyAt z B f.H1 f.H2 f.C f.s1 f.g1 f.v1 f.s2 f.g2 f.v2 f.b f.t f.e s.c) v w2)) := Lib.hid fun W hW => (hp.out W hW).mono fun r w2 h => ⟨_, h.1, by rw [HGe.out]; exact h.2.2, rfl, h.2.1⟩
    clear hp hr
    go_enter Try.func42, Try.ntmps42
    go_wp2_with fail
    refine oc3 _ _ _ Q C i N c2 ad (some ad) G y 0 6 _ hQ cc2 rfl hlt hrn k0 k1 t0 t1 hcr (fun _ _ h g => h.below g) HA rfl ?_ ?_ ?_
    · rfl
    · rfl
    intro vals w4 hG h4 h5 hcall
    unfold IsV at h4 h5
    simp only [putO, Act.put, List.setIfInBounds_toArray, List.set_cons_zero, List.set_cons_succ, h4, h5]
    have HE := Lib.hid (And.intro hcall.2 hG)
    clear hG h4 h5 hcall k0 k1 k2 k3 k4 k5 hcr
    go_wp2_with fail
    go_ret
    have h1 := HE.out.2
    rw [HGe.out] at h1
    exact ⟨rfl, h1.more fun k hk => (HP.out.cys.1 k hk).1, _, HP.out.toCy h1 HE.out.1⟩
  | some z =>
    obtain ⟨q, d⟩ := z
    rw [hr] at hp
    obtain ⟨u, hu⟩ : ∃ u, u = (q : Int) - 1 := ⟨_, rfl⟩
    have HA : Hid (∀ W, Below w.heap.size w W → Calls Try.prog 51 #[.pointer (some ⟨C, 0, none⟩), .int .i64 y] W (fun e w2 => ∃ v, e = .returned v ∧ Kept G W w2 ∧ AndV (.tuple #[.int .i64 u, .int .i64 0]) (fun z => CyAt z B f.H1 f.H2 f.C f.s1 f.g1 f.v1 f.s2 f.g2 f.v2 f.b f.t f.e d) v w2)) := Lib.hid fun W hW => (hp.out W hW).mono fun r w2 h => ⟨_, h.1, by rw [HGe.out]; exact h.2.2, by rw [hu], h.2.1⟩
    have HU := Lib.hid hu
    clear hp hr hu
    go_enter Try.func42, Try.ntmps42
    go_wp2_with fail
    refine oc3 _ _ _ Q C i N c2 ad (some ad) G y u 0 _ hQ cc2 rfl hlt hrn k0 k1 t0 t1 hcr (fun _ _ h g => h.below g) HA rfl ?_ ?_ ?_
    · rfl
    · rfl
    intro vals w4 hG h4 h5 hcall
    unfold IsV at h4 h5
    simp only [putO, Act.put, List.setIfInBounds_toArray, List.set_cons_zero, List.set_cons_succ, h4, h5]
    rw [HGe.out] at hG
    have p4 := HP.out.toCy hG hcall.2
    have h4k := p4.blk
    rw [HI.out.2.2.2.1, HI.out.2.2.2.2, ← HI.out.2.2.1, ← HI.out.1, ← HI.out.2.1] at h4k
    have ho4 := p4.ww
    rw [HI.out.2.2.2.1, ← HI.out.1] at ho4
    obtain ⟨g0, g1, g2, g3, g4, g5⟩ := h4k.six
    have hQ4 := h4k.lt
    have hQne := p4.ne
    rw [HI.out.2.2.2.1, ← HI.out.1] at hQne
    have hbase : f.C + 1 ≤ w4.heap.size := by have := p4.CQ; have := p4.blk.lt; omega
    have HL := Lib.hid (show (backZ s.qs).length + 1 ≤ 4294967296 from by simp [backZ, ← HI.out.1]; omega)
    have HE := Lib.hid (And.intro hG (And.intro p4 (And.intro ho4 (And.intro hQne (And.intro hbase h4k)))))
    clear hG h4 h5 hcall k0 k1 k2 k3 k4 k5 hcr p4 h4k ho4 hQne hbase
    go_wp2_with (at_builtin; refine wp_app oneI zV_one rfl (.tmp 42) (.tmp 44) rfl (f.C + 1) _ (backZ s.qs) rfl (HE.out.2.2.1.alloc _) (some ⟨w4.heap.size, 0, none⟩) 1 1 [u] rfl rfl (w4.heap.size + 1) (rd1_new rfl) HL.out (by decide) (by have := HE.out.2.2.2.2.1; simp; omega) ?_; intro v6 w6 ho6 hb6 (hg6 : World.grownBy (w4.alloc (.cells #[.int .i64 u] 3)) w6 (Value.slice A i c).ownBlock) (hv6 : v6.ownBlock = (Value.slice A i c).ownBlock ∨ v6.ownBlock = some (w4.alloc (.cells #[.int .i64 u] 3)).heap.size); obtain ⟨A6, n6, c6, rfl⟩ := ow_slc ho6; have hk6 := (HE.out.2.2.2.2.2.alloc (.cells #[.int .i64 u] 3)).grown hg6 (fun e => (HE.out.2.2.2.1 Q e.symm).1 rfl); have H6 := Lib.hid (And.intro ho6 (And.intro hg6 (And.intro hv6 hk6))); obtain ⟨j0, j1, j2, j3, j4, j5⟩ := hk6.six; have jf := hk6.free 2; have jf4 := hk6.free 4; have hQ6 := hk6.lt; clear ho6 hb6 hg6 hv6 hk6 g0 g1 g2 g3 g4 g5)
    go_ret
    have hg6 := H6.out.2.1
    have hv6 := H6.out.2.2.1
    have e0 : Value.slice A i c = xw := by rw [HI.out.2.2.2.1, HI.out.1]
    rw [e0] at hg6 hv6
    obtain ⟨x1, x2, x3⟩ := HE.out.2.1.push H6.out.1 hg6 hv6 HU.out
    have h1 := HE.out.1.size
    exact ⟨rfl, (HE.out.1.more fun k hk => (HP.out.cys.1 k hk).1).trans x1, _, _, x2, fun k hk => hk.elim .inl (fun h => (x3 k h).imp id (fun h => Nat.le_trans h1 h))⟩
end
end Go.Proofs.Ytbanbpphadgoiaa
/- A collector scans the next object; Done. Conditions: lengths. -/
namespace Go.Proofs.Ytbanbpphadgoiaa
set_option linter.unusedVariables false
set_option linter.unusedSimpArgs false
open Go.RowKit Go.Maps
set_option maxHeartbeats 1000000
set_option maxRecDepth 100000
theorem dn_a (Q : Exit → Act → World → Prop) (a0 : Act) (w : World) (D i N c c2 : Nat) (A A2 : Option Addr) (hQ : D < w.heap.size) (d1 : w.cell? ⟨D, 1, none⟩ = some (.slice A2 N c2)) (d2 : w.cell? ⟨D, 2, none⟩ = some (.slice A i c)) (d5 : w.cell? ⟨D, 5, none⟩ = some (.bool false)) (hne : ¬ (i : Int) = (N : Int)) (hsz : a0.tmps.size = 30) (sl0 : a0.tmps.getD 0 undef = .pointer (some ⟨D, 0, none⟩))
    (fin : ∀ (vals : Nat → Value) (w1 : World), Below w.heap.size w w1 → (IsV (.bool false)) (vals 27) w1 → Q .normal (putD vals [3, 4, 5, 6, 7, 8, 9, 10, 11, 12, 13, 14, 15, 16, 17, 18, 19, 20, 21, 22, 23, 24, 25, 26, 27, 28, 29, 2] 0 a0) w1) :
    (Code.region 1 (regIn Try.f19 1) true).wp Try.prog Q a0 w := by
  refine region_by (G := fun w w1 => Below w.heap.size w w1) [IsV (.pointer (some ⟨D, 0, none⟩)),
    IsV (.pointer (some ⟨D, 0, none⟩)),
    IsV (.pointer (some ⟨D, 5, none⟩)),
    IsV (.bool false),
    IsV (.bool true),
    IsV (.bool true),
    IsV (.pointer (some ⟨D, 0, none⟩)),
    IsV (.pointer (some ⟨D, 0, none⟩)),
    IsV (.pointer (some ⟨D, 2, none⟩)),
    IsV (.slice A i c),
    IsV (.int .i64 (i : Int)),
    IsV (.pointer (some ⟨D, 0, none⟩)),
    IsV (.pointer (some ⟨D, 0, none⟩)),
    IsV (.pointer (some ⟨D, 1, none⟩)),
    IsV (.slice A2 N c2),
    IsV (.int .i64 (N : Int)),
    IsV (.bool false),
    IsV (.bool false),
    IsV (.bool false),
    IsV undef,
    IsV undef,
    IsV undef,
    IsV undef,
    IsV undef,
    IsV undef,
    IsV undef,
    IsV (.bool false),
    IsV (.bool false)]
    [3, 4, 5, 6, 7, 8, 9, 10, 11, 12, 13, 14, 15, 16, 17, 18, 19, 20, 21, 22, 23, 24, 25, 26, 27, 28, 29, 2] (by kernel_rfl) (Gw.drew _) Gw.trans (by rw [hsz]; kernel_rfl) (by kernel_rfl) ?_ ?_ ?_
  · intro f hf
    simp only [List.mem_cons, List.not_mem_nil, or_false] at hf
    rcases hf with rfl | rfl | rfl | rfl | rfl | rfl | rfl | rfl | rfl | rfl | rfl | rfl | rfl | rfl | rfl | rfl | rfl | rfl | rfl | rfl | rfl | rfl | rfl | rfl | rfl | rfl | rfl | rfl <;> intro v a b h g <;> first | exact IsV.mono h
  · refine ⟨?_, ?_, ?_, ?_, ?_, ?_, ?_, ?_, ?_, ?_, ?_, ?_, ?_, ?_, ?_, ?_, ?_, ?_, ?_, ?_, ?_, ?_, ?_, ?_, ?_, ?_, ?_, ?_, trivial⟩
    · exact owes_mv 0 (by kernel_rfl) (by kernel_rfl) (by kernel_rfl) sl0 (fun _ => rfl)
    · refine owes_v (Go.Op.nilCheck (Go.Operand.tmp 3)) 0 [0] (by kernel_rfl) (by kernel_rfl) (by kernel_rfl) rfl fun vals w1 ρ hG hF hρ hcst hfun => ?_
      have e3 : ρ (.tmp 3) = .pointer (some ⟨D, 0, none⟩) := ((hρ 3).trans (slotJ [0] (by rw [hsz]; decide) (by kernel_rfl))).trans (hF 0 (by decide))
      clear hρ hF hcst hfun sl0 fin
      exact opv_val (by go_simp <;> rfl) ⟨gw_self _, rfl⟩
    · refine owes_v (Go.Op.fieldAddr 84 (Go.Operand.tmp 4) 5) 0 [1] (by kernel_rfl) (by kernel_rfl) (by kernel_rfl) rfl fun vals w1 ρ hG hF hρ hcst hfun => ?_
      have e4 : ρ (.tmp 4) = .pointer (some ⟨D, 0, none⟩) := ((hρ 4).trans (slotJ [1] (by rw [hsz]; decide) (by kernel_rfl))).trans (hF 1 (by decide))
      clear hρ hF hcst hfun sl0 fin
      exact opv_val (by go_simp <;> rfl) ⟨gw_self _, rfl⟩
    · refine owes_v (Go.Op.load 4 (Go.Operand.tmp 5)) 4 [2] (by kernel_rfl) (by kernel_rfl) (by kernel_rfl) rfl fun vals w1 ρ hG hF hρ hcst hfun => ?_
      have e5 : ρ (.tmp 5) = .pointer (some ⟨D, 5, none⟩) := ((hρ 5).trans (slotJ [2] (by rw [hsz]; decide) (by kernel_rfl))).trans (hF 2 (by decide))
      have k := (hG.cell (p := ⟨D, 5, none⟩) hQ).trans d5
      clear hρ hF hcst hfun sl0 fin
      exact opv_val (by go_simp <;> rfl) ⟨gw_self _, rfl⟩
    · refine owes_v (Go.Op.unOp Go.UnOp.not 4 (Go.Operand.tmp 6)) 4 [3] (by kernel_rfl) (by kernel_rfl) (by kernel_rfl) rfl fun vals w1 ρ hG hF hρ hcst hfun => ?_
      have e6 : ρ (.tmp 6) = .bool false := ((hρ 6).trans (slotJ [3] (by rw [hsz]; decide) (by kernel_rfl))).trans (hF 3 (by decide))
      clear hρ hF hcst hfun sl0 fin
      exact opv_val (by go_simp <;> rfl) ⟨gw_self _, rfl⟩
    · exact owes_mvj 4 7 (by kernel_rfl) (by kernel_rfl) (by kernel_rfl) (by kernel_rfl) (by rw [hsz]; decide) (fun v w h => h)
    · refine owes_vt 5 true (Go.Op.move (Go.Operand.tmp 0)) 31 [] (by kernel_rfl) (by kernel_rfl) (by kernel_rfl) (fun _ _ h => h) (by rw [hsz]; kernel_rfl) (by kernel_rfl) rfl fun vals w1 ρ hG hF hρ hcst hfun => ?_
      have e0 : ρ (.tmp 0) = .pointer (some ⟨D, 0, none⟩) := ((hρ 0).trans (slotO [] (by kernel_rfl))).trans sl0
      clear hρ hF hcst hfun sl0 fin
      exact opv_val (by go_simp <;> rfl) ⟨gw_self _, rfl⟩
    · refine owes_vt 5 true (Go.Op.nilCheck (Go.Operand.tmp 9)) 0 [6] (by kernel_rfl) (by kernel_rfl) (by kernel_rfl) (fun _ _ h => h) (by rw [hsz]; kernel_rfl) (by kernel_rfl) rfl fun vals w1 ρ hG hF hρ hcst hfun => ?_
      have e9 : ρ (.tmp 9) = .pointer (some ⟨D, 0, none⟩) := ((hρ 9).trans (slotJ [6] (by rw [hsz]; decide) (by kernel_rfl))).trans (hF 6 (by decide))
      clear hρ hF hcst hfun sl0 fin
      exact opv_val (by go_simp <;> rfl) ⟨gw_self _, rfl⟩
    · refine owes_vt 5 true (Go.Op.fieldAddr 84 (Go.Operand.tmp 10) 2) 0 [7] (by kernel_rfl) (by kernel_rfl) (by kernel_rfl) (fun _ _ h => h) (by rw [hsz]; kernel_rfl) (by kernel_rfl) rfl fun vals w1 ρ hG hF hρ hcst hfun => ?_
      have e10 : ρ (.tmp 10) = .pointer (some ⟨D, 0, none⟩) := ((hρ 10).trans (slotJ [7] (by rw [hsz]; decide) (by kernel_rfl))).trans (hF 7 (by decide))
      clear hρ hF hcst hfun sl0 fin
      exact opv_val (by go_simp <;> rfl) ⟨gw_self _, rfl⟩
    · refine owes_vt 5 true (Go.Op.load 23 (Go.Operand.tmp 11)) 23 [8] (by kernel_rfl) (by kernel_rfl) (by kernel_rfl) (fun _ _ h => h) (by rw [hsz]; kernel_rfl) (by kernel_rfl) rfl fun vals w1 ρ hG hF hρ hcst hfun => ?_
      have e11 : ρ (.tmp 11) = .pointer (some ⟨D, 2, none⟩) := ((hρ 11).trans (slotJ [8] (by rw [hsz]; decide) (by kernel_rfl))).trans (hF 8 (by decide))
      have k := (hG.cell (p := ⟨D, 2, none⟩) hQ).trans d2
      clear hρ hF hcst hfun sl0 fin
      exact opv_val (by go_simp <;> rfl) ⟨gw_self _, rfl⟩
    · refine owes_vt 5 true (Go.Op.call { callee := Go.Callee.builtin Go.Builtin.len, args := #[Go.Operand.tmp 12], argTypes := #[23] }) 3 [9] (by kernel_rfl) (by kernel_rfl) (by kernel_rfl) (fun _ _ h => h) (by rw [hsz]; kernel_rfl) (by kernel_rfl) rfl fun vals w1 ρ hG hF hρ hcst hfun => ?_
      have e12 : ρ (.tmp 12) = .slice A i c := ((hρ 12).trans (slotJ [9] (by rw [hsz]; decide) (by kernel_rfl))).trans (hF 9 (by decide))
      clear hρ hF hcst hfun sl0 fin
      exact opv_val (by go_simp <;> rfl) ⟨gw_self _, rfl⟩
    · refine owes_vt 5 true (Go.Op.move (Go.Operand.tmp 0)) 31 [] (by kernel_rfl) (by kernel_rfl) (by kernel_rfl) (fun _ _ h => h) (by rw [hsz]; kernel_rfl) (by kernel_rfl) rfl fun vals w1 ρ hG hF hρ hcst hfun => ?_
      have e0 : ρ (.tmp 0) = .pointer (some ⟨D, 0, none⟩) := ((hρ 0).trans (slotO [] (by kernel_rfl))).trans sl0
      clear hρ hF hcst hfun sl0 fin
      exact opv_val (by go_simp <;> rfl) ⟨gw_self _, rfl⟩
    · refine owes_vt 5 true (Go.Op.nilCheck (Go.Operand.tmp 14)) 0 [11] (by kernel_rfl) (by kernel_rfl) (by kernel_rfl) (fun _ _ h => h) (by rw [hsz]; kernel_rfl) (by kernel_rfl) rfl fun vals w1 ρ hG hF hρ hcst hfun => ?_
      have e14 : ρ (.tmp 14) = .pointer (some ⟨D, 0, none⟩) := ((hρ 14).trans (slotJ [11] (by rw [hsz]; decide) (by kernel_rfl))).trans (hF 11 (by decide))
      clear hρ hF hcst hfun sl0 fin
      exact opv_val (by go_simp <;> rfl) ⟨gw_self _, rfl⟩
    · refine owes_vt 5 true (Go.Op.fieldAddr 84 (Go.Operand.tmp 15) 1) 0 [12] (by kernel_rfl) (by kernel_rfl) (by kernel_rfl) (fun _ _ h => h) (by rw [hsz]; kernel_rfl) (by kernel_rfl) rfl fun vals w1 ρ hG hF hρ hcst hfun => ?_
      have e15 : ρ (.tmp 15) = .pointer (some ⟨D, 0, none⟩) := ((hρ 15).trans (slotJ [12] (by rw [hsz]; decide) (by kernel_rfl))).trans (hF 12 (by decide))
      clear hρ hF hcst hfun sl0 fin
      exact opv_val (by go_simp <;> rfl) ⟨gw_self _, rfl⟩
    · refine owes_vt 5 true (Go.Op.load 23 (Go.Operand.tmp 16)) 23 [13] (by kernel_rfl) (by kernel_rfl) (by kernel_rfl) (fun _ _ h => h) (by rw [hsz]; kernel_rfl) (by kernel_rfl) rfl fun vals w1 ρ hG hF hρ hcst hfun => ?_
      have e16 : ρ (.tmp 16) = .pointer (some ⟨D, 1, none⟩) := ((hρ 16).trans (slotJ [13] (by rw [hsz]; decide) (by kernel_rfl))).trans (hF 13 (by decide))
      have k := (hG.cell (p := ⟨D, 1, none⟩) hQ).trans d1
      clear hρ hF hcst hfun sl0 fin
      exact opv_val (by go_simp <;> rfl) ⟨gw_self _, rfl⟩
    · refine owes_vt 5 true (Go.Op.call { callee := Go.Callee.builtin Go.Builtin.len, args := #[Go.Operand.tmp 17], argTypes := #[23] }) 3 [14] (by kernel_rfl) (by kernel_rfl) (by kernel_rfl) (fun _ _ h => h) (by rw [hsz]; kernel_rfl) (by kernel_rfl) rfl fun vals w1 ρ hG hF hρ hcst hfun => ?_
      have e17 : ρ (.tmp 17) = .slice A2 N c2 := ((hρ 17).trans (slotJ [14] (by rw [hsz]; decide) (by kernel_rfl))).trans (hF 14 (by decide))
      clear hρ hF hcst hfun sl0 fin
      exact opv_val (by go_simp <;> rfl) ⟨gw_self _, rfl⟩
    · refine owes_vt 5 true (Go.Op.binOp Go.BinOp.eql 3 (Go.Operand.tmp 13) (Go.Operand.tmp 18) 3) 4 [10, 15] (by kernel_rfl) (by kernel_rfl) (by kernel_rfl) (fun _ _ h => h) (by rw [hsz]; kernel_rfl) (by kernel_rfl) rfl fun vals w1 ρ hG hF hρ hcst hfun => ?_
      have e13 : ρ (.tmp 13) = .int .i64 (i : Int) := ((hρ 13).trans (slotJ [10, 15] (by rw [hsz]; decide) (by kernel_rfl))).trans (hF 10 (by decide))
      have e18 : ρ (.tmp 18) = .int .i64 (N : Int) := ((hρ 18).trans (slotJ [10, 15] (by rw [hsz]; decide) (by kernel_rfl))).trans (hF 15 (by decide))
      clear hρ hF hcst hfun sl0 fin
      exact opv_val (by go_simp <;> rfl) ⟨gw_self _, rfl⟩
    · refine owes_v (Go.Op.pick (Go.Operand.tmp 8) (Go.Operand.tmp 19) (Go.Operand.const (Go.Value.bool false))) 4 [5, 16] (by kernel_rfl) (by kernel_rfl) (by kernel_rfl) rfl fun vals w1 ρ hG hF hρ hcst hfun => ?_
      have e8 : ρ (.tmp 8) = .bool true := ((hρ 8).trans (slotJ [5, 16] (by rw [hsz]; decide) (by kernel_rfl))).trans (hF 5 (by decide))
      have e19 : ρ (.tmp 19) = .bool false := ((hρ 19).trans (slotJ [5, 16] (by rw [hsz]; decide) (by kernel_rfl))).trans (hF 16 (by decide))
      clear hρ hF hfun sl0 fin
      exact opv_val (by go_simp <;> rfl) ⟨gw_self _, rfl⟩
    · exact owes_mvj 17 20 (by kernel_rfl) (by kernel_rfl) (by kernel_rfl) (by kernel_rfl) (by rw [hsz]; decide) (fun v w h => h)
    · exact owes_no 18 false true (by decide) (by kernel_rfl) (by kernel_rfl) (fun _ _ h => h) (by rw [hsz]; kernel_rfl) (fun _ => rfl)
    · exact owes_no 18 false true (by decide) (by kernel_rfl) (by kernel_rfl) (fun _ _ h => h) (by rw [hsz]; kernel_rfl) (fun _ => rfl)
    · exact owes_no 18 false true (by decide) (by kernel_rfl) (by kernel_rfl) (fun _ _ h => h) (by rw [hsz]; kernel_rfl) (fun _ => rfl)
    · exact owes_no 18 false true (by decide) (by kernel_rfl) (by kernel_rfl) (fun _ _ h => h) (by rw [hsz]; kernel_rfl) (fun _ => rfl)
    · exact owes_no 18 false true (by decide) (by kernel_rfl) (by kernel_rfl) (fun _ _ h => h) (by rw [hsz]; kernel_rfl) (fun _ => rfl)
    · exact owes_no 18 false true (by decide) (by kernel_rfl) (by kernel_rfl) (fun _ _ h => h) (by rw [hsz]; kernel_rfl) (fun _ => rfl)
    · exact owes_no 18 false true (by decide) (by kernel_rfl) (by kernel_rfl) (fun _ _ h => h) (by rw [hsz]; kernel_rfl) (fun _ => rfl)
    · refine owes_v (Go.Op.pick (Go.Operand.tmp 21) (Go.Operand.tmp 28) (Go.Operand.const (Go.Value.bool false))) 4 [18, 25] (by kernel_rfl) (by kernel_rfl) (by kernel_rfl) rfl fun vals w1 ρ hG hF hρ hcst hfun => ?_
      have e21 : ρ (.tmp 21) = .bool false := ((hρ 21).trans (slotJ [18, 25] (by rw [hsz]; decide) (by kernel_rfl))).trans (hF 18 (by decide))
      have e28 : ρ (.tmp 28) = undef := ((hρ 28).trans (slotJ [18, 25] (by rw [hsz]; decide) (by kernel_rfl))).trans (hF 25 (by decide))
      clear hρ hF hfun sl0 fin
      exact opv_val (by go_simp <;> rfl) ⟨gw_self _, rfl⟩
    · exact owes_mvj 26 29 (by kernel_rfl) (by kernel_rfl) (by kernel_rfl) (by kernel_rfl) (by rw [hsz]; decide) (fun v w h => h)
  · intro vals w1 hG hF
    exact fin vals w1 hG (hF 27 (by decide +kernel))
theorem dn_b (Q : Exit → Act → World → Prop) (a0 : Act) (w : World) (D i N c c2 : Nat) (A A2 : Option Addr) (z tp : Int) (bb : Bool) (hQ : D < w.heap.size) (d1 : w.cell? ⟨D, 1, none⟩ = some (.slice A2 N c2)) (d2 : w.cell? ⟨D, 2, none⟩ = some (.slice A i c)) (d3 : w.cell? ⟨D, 3, none⟩ = some (.int .i64 z)) (d5 : w.cell? ⟨D, 5, none⟩ = some (.bool false)) (hne : (i : Int) = (N : Int)) (hbb : bb = decide (z = tp)) (hp : Hid (∀ W, Below w.heap.size w W → Calls Try.prog 21 #[.pointer (some ⟨D, 0, none⟩)] W (RetP (.int .i64 tp) W))) (hsz : a0.tmps.size = 30) (sl0 : a0.tmps.getD 0 undef = .pointer (some ⟨D, 0, none⟩))
    (fin : ∀ (vals : Nat → Value) (w1 : World), Below w.heap.size w w1 → (IsV (.bool bb)) (vals 27) w1 → Q .normal (putD vals [3, 4, 5, 6, 7, 8, 9, 10, 11, 12, 13, 14, 15, 16, 17, 18, 19, 20, 21, 22, 23, 24, 25, 26, 27, 28, 29, 2] 0 a0) w1) :
    (Code.region 1 (regIn Try.f19 1) true).wp Try.prog Q a0 w := by
  refine region_by (G := fun w w1 => Below w.heap.size w w1) [IsV (.pointer (some ⟨D, 0, none⟩)),
    IsV (.pointer (some ⟨D, 0, none⟩)),
    IsV (.pointer (some ⟨D, 5, none⟩)),
    IsV (.bool false),
    IsV (.bool true),
    IsV (.bool true),
    IsV (.pointer (some ⟨D, 0, none⟩)),
    IsV (.pointer (some ⟨D, 0, none⟩)),
    IsV (.pointer (some ⟨D, 2, none⟩)),
    IsV (.slice A i c),
    IsV (.int .i64 (i : Int)),
    IsV (.pointer (some ⟨D, 0, none⟩)),
    IsV (.pointer (some ⟨D, 0, none⟩)),
    IsV (.pointer (some ⟨D, 1, none⟩)),
    IsV (.slice A2 N c2),
    IsV (.int .i64 (N : Int)),
    IsV (.bool true),
    IsV (.bool true),
    IsV (.bool true),
    IsV (.pointer (some ⟨D, 0, none⟩)),
    IsV (.pointer (some ⟨D, 0, none⟩)),
    IsV (.pointer (some ⟨D, 3, none⟩)),
    IsV (.int .i64 z),
    IsV (.pointer (some ⟨D, 0, none⟩)),
    IsV (.int .i64 tp),
    IsV (.bool bb),
    IsV (.bool bb),
    IsV (.bool bb)]
    [3, 4, 5, 6, 7, 8, 9, 10, 11, 12, 13, 14, 15, 16, 17, 18, 19, 20, 21, 22, 23, 24, 25, 26, 27, 28, 29, 2] (by kernel_rfl) (Gw.drew _) Gw.trans (by rw [hsz]; kernel_rfl) (by kernel_rfl) ?_ ?_ ?_
  · intro f hf
    simp only [List.mem_cons, List.not_mem_nil, or_false] at hf
    rcases hf with rfl | rfl | rfl | rfl | rfl | rfl | rfl | rfl | rfl | rfl | rfl | rfl | rfl | rfl | rfl | rfl | rfl | rfl | rfl | rfl | rfl | rfl | rfl | rfl | rfl | rfl | rfl | rfl <;> intro v a b h g <;> first | exact IsV.mono h
  · refine ⟨?_, ?_, ?_, ?_, ?_, ?_, ?_, ?_, ?_, ?_, ?_, ?_, ?_, ?_, ?_, ?_, ?_, ?_, ?_, ?_, ?_, ?_, ?_, ?_, ?_, ?_, ?_, ?_, trivial⟩
    · exact owes_mv 0 (by kernel_rfl) (by kernel_rfl) (by kernel_rfl) sl0 (fun _ => rfl)
    · refine owes_v (Go.Op.nilCheck (Go.Operand.tmp 3)) 0 [0] (by kernel_rfl) (by kernel_rfl) (by kernel_rfl) rfl fun vals w1 ρ hG hF hρ hcst hfun => ?_
      have e3 : ρ (.tmp 3) = .pointer (some ⟨D, 0, none⟩) := ((hρ 3).trans (slotJ [0] (by rw [hsz]; decide) (by kernel_rfl))).trans (hF 0 (by decide))
      clear hρ hF hcst hfun sl0 fin
      exact opv_val (by go_simp <;> rfl) ⟨gw_self _, rfl⟩
    · refine owes_v (Go.Op.fieldAddr 84 (Go.Operand.tmp 4) 5) 0 [1] (by kernel_rfl) (by kernel_rfl) (by kernel_rfl) rfl fun vals w1 ρ hG hF hρ hcst hfun => ?_
      have e4 : ρ (.tmp 4) = .pointer (some ⟨D, 0, none⟩) := ((hρ 4).trans (slotJ [1] (by rw [hsz]; decide) (by kernel_rfl))).trans (hF 1 (by decide))
      clear hρ hF hcst hfun sl0 fin
      exact opv_val (by go_simp <;> rfl) ⟨gw_self _, rfl⟩
    · refine owes_v (Go.Op.load 4 (Go.Operand.tmp 5)) 4 [2] (by kernel_rfl) (by kernel_rfl) (by kernel_rfl) rfl fun vals w1 ρ hG hF hρ hcst hfun => ?_
      have e5 : ρ (.tmp 5) = .pointer (some ⟨D, 5, none⟩) := ((hρ 5).trans (slotJ [2] (by rw [hsz]; decide) (by kernel_rfl))).trans (hF 2 (by decide))
      have k := (hG.cell (p := ⟨D, 5, none⟩) hQ).trans d5
      clear hρ hF hcst hfun sl0 fin
      exact opv_val (by go_simp <;> rfl) ⟨gw_self _, rfl⟩
    · refine owes_v (Go.Op.unOp Go.UnOp.not 4 (Go.Operand.tmp 6)) 4 [3] (by kernel_rfl) (by kernel_rfl) (by kernel_rfl) rfl fun vals w1 ρ hG hF hρ hcst hfun => ?_
      have e6 : ρ (.tmp 6) = .bool false := ((hρ 6).trans (slotJ [3] (by rw [hsz]; decide) (by kernel_rfl))).trans (hF 3 (by decide))
      clear hρ hF hcst hfun sl0 fin
      exact opv_val (by go_simp <;> rfl) ⟨gw_self _, rfl⟩
    · exact owes_mvj 4 7 (by kernel_rfl) (by kernel_rfl) (by kernel_rfl) (by kernel_rfl) (by rw [hsz]; decide) (fun v w h => h)
    · refine owes_vt 5 true (Go.Op.move (Go.Operand.tmp 0)) 31 [] (by kernel_rfl) (by kernel_rfl) (by kernel_rfl) (fun _ _ h => h) (by rw [hsz]; kernel_rfl) (by kernel_rfl) rfl fun vals w1 ρ hG hF hρ hcst hfun => ?_
      have e0 : ρ (.tmp 0) = .pointer (some ⟨D, 0, none⟩) := ((hρ 0).trans (slotO [] (by kernel_rfl))).trans sl0
      clear hρ hF hcst hfun sl0 fin
      exact opv_val (by go_simp <;> rfl) ⟨gw_self _, rfl⟩
    · refine owes_vt 5 true (Go.Op.nilCheck (Go.Operand.tmp 9)) 0 [6] (by kernel_rfl) (by kernel_rfl) (by kernel_rfl) (fun _ _ h => h) (by rw [hsz]; kernel_rfl) (by kernel_rfl) rfl fun vals w1 ρ hG hF hρ hcst hfun => ?_
      have e9 : ρ (.tmp 9) = .pointer (some ⟨D, 0, none⟩) := ((hρ 9).trans (slotJ [6] (by rw [hsz]; decide) (by kernel_rfl))).trans (hF 6 (by decide))
      clear hρ hF hcst hfun sl0 fin
      exact opv_val (by go_simp <;> rfl) ⟨gw_self _, rfl⟩
    · refine owes_vt 5 true (Go.Op.fieldAddr 84 (Go.Operand.tmp 10) 2) 0 [7] (by kernel_rfl) (by kernel_rfl) (by kernel_rfl) (fun _ _ h => h) (by rw [hsz]; kernel_rfl) (by kernel_rfl) rfl fun vals w1 ρ hG hF hρ hcst hfun => ?_
      have e10 : ρ (.tmp 10) = .pointer (some ⟨D, 0, none⟩) := ((hρ 10).trans (slotJ [7] (by rw [hsz]; decide) (by kernel_rfl))).trans (hF 7 (by decide))
      clear hρ hF hcst hfun sl0 fin
      exact opv_val (by go_simp <;> rfl) ⟨gw_self _, rfl⟩
    · refine owes_vt 5 true (Go.Op.load 23 (Go.Operand.tmp 11)) 23 [8] (by kernel_rfl) (by kernel_rfl) (by kernel_rfl) (fun _ _ h => h) (by rw [hsz]; kernel_rfl) (by kernel_rfl) rfl fun vals w1 ρ hG hF hρ hcst hfun => ?_
      have e11 : ρ (.tmp 11) = .pointer (some ⟨D, 2, none⟩) := ((hρ 11).trans (slotJ [8] (by rw [hsz]; decide) (by kernel_rfl))).trans (hF 8 (by decide))
      have k := (hG.cell (p := ⟨D, 2, none⟩) hQ).trans d2
      clear hρ hF hcst hfun sl0 fin
      exact opv_val (by go_simp <;> rfl) ⟨gw_self _, rfl⟩
    · refine owes_vt 5 true (Go.Op.call { callee := Go.Callee.builtin Go.Builtin.len, args := #[Go.Operand.tmp 12], argTypes := #[23] }) 3 [9] (by kernel_rfl) (by kernel_rfl) (by kernel_rfl) (fun _ _ h => h) (by rw [hsz]; kernel_rfl) (by kernel_rfl) rfl fun vals w1 ρ hG hF hρ hcst hfun => ?_
      have e12 : ρ (.tmp 12) = .slice A i c := ((hρ 12).trans (slotJ [9] (by rw [hsz]; decide) (by kernel_rfl))).trans (hF 9 (by decide))
      clear hρ hF hcst hfun sl0 fin
      exact opv_val (by go_simp <;> rfl) ⟨gw_self _, rfl⟩
    · refine owes_vt 5 true (Go.Op.move (Go.Operand.tmp 0)) 31 [] (by kernel_rfl) (by kernel_rfl) (by kernel_rfl) (fun _ _ h => h) (by rw [hsz]; kernel_rfl) (by kernel_rfl) rfl fun vals w1 ρ hG hF hρ hcst hfun => ?_
      have e0 : ρ (.tmp 0) = .pointer (some ⟨D, 0, none⟩) := ((hρ 0).trans (slotO [] (by kernel_rfl))).trans sl0
      clear hρ hF hcst hfun sl0 fin
      exact opv_val (by go_simp <;> rfl) ⟨gw_self _, rfl⟩
    · refine owes_vt 5 true (Go.Op.nilCheck (Go.Operand.tmp 14)) 0 [11] (by kernel_rfl) (by kernel_rfl) (by kernel_rfl) (fun _ _ h => h) (by rw [hsz]; kernel_rfl) (by kernel_rfl) rfl fun vals w1 ρ hG hF hρ hcst hfun => ?_
      have e14 : ρ (.tmp 14) = .pointer (some ⟨D, 0, none⟩) := ((hρ 14).trans (slotJ [11] (by rw [hsz]; decide) (by kernel_rfl))).trans (hF 11 (by decide))
      clear hρ hF hcst hfun sl0 fin
      exact opv_val (by go_simp <;> rfl) ⟨gw_self _, rfl⟩
    · refine owes_vt 5 true (Go.Op.fieldAddr 84 (Go.Operand.tmp 15) 1) 0 [12] (by kernel_rfl) (by kernel_rfl) (by kernel_rfl) (fun _ _ h => h) (by rw [hsz]; kernel_rfl) (by kernel_rfl) rfl fun vals w1 ρ hG hF hρ hcst hfun => ?_
      have e15 : ρ (.tmp 15) = .pointer (some ⟨D, 0, none⟩) := ((hρ 15).trans (slotJ [12] (by rw [hsz]; decide) (by kernel_rfl))).trans (hF 12 (by decide))
      clear hρ hF hcst hfun sl0 fin
      exact opv_val (by go_simp <;> rfl) ⟨gw_self _, rfl⟩
    · refine owes_vt 5 true (Go.Op.load 23 (Go.Operand.tmp 16)) 23 [13] (by kernel_rfl) (by kernel_rfl) (by kernel_rfl) (fun _ _ h => h) (by rw [hsz]; kernel_rfl) (by kernel_rfl) rfl fun vals w1 ρ hG hF hρ hcst hfun => ?_
      have e16 : ρ (.tmp 16) = .pointer (some ⟨D, 1, none⟩) := ((hρ 16).trans (slotJ [13] (by rw [hsz]; decide) (by kernel_rfl))).trans (hF 13 (by decide))
      have k := (hG.cell (p := ⟨D, 1, none⟩) hQ).trans d1
      clear hρ hF hcst hfun sl0 fin
      exact opv_val (by go_simp <;> rfl) ⟨gw_self _, rfl⟩
    · refine owes_vt 5 true (Go.Op.call { callee := Go.Callee.builtin Go.Builtin.len, args := #[Go.Operand.tmp 17], argTypes := #[23] }) 3 [14] (by kernel_rfl) (by kernel_rfl) (by kernel_rfl) (fun _ _ h => h) (by rw [hsz]; kernel_rfl) (by kernel_rfl) rfl fun vals w1 ρ hG hF hρ hcst hfun => ?_
      have e17 : ρ (.tmp 17) = .slice A2 N c2 := ((hρ 17).trans (slotJ [14] (by rw [hsz]; decide) (by kernel_rfl))).trans (hF 14 (by decide))
      clear hρ hF hcst hfun sl0 fin
      exact opv_val (by go_simp <;> rfl) ⟨gw_self _, rfl⟩
    · refine owes_vt 5 true (Go.Op.binOp Go.BinOp.eql 3 (Go.Operand.tmp 13) (Go.Operand.tmp 18) 3) 4 [10, 15] (by kernel_rfl) (by kernel_rfl) (by kernel_rfl) (fun _ _ h => h) (by rw [hsz]; kernel_rfl) (by kernel_rfl) rfl fun vals w1 ρ hG hF hρ hcst hfun => ?_
      have e13 : ρ (.tmp 13) = .int .i64 (i : Int) := ((hρ 13).trans (slotJ [10, 15] (by rw [hsz]; decide) (by kernel_rfl))).trans (hF 10 (by decide))
      have e18 : ρ (.tmp 18) = .int .i64 (N : Int) := ((hρ 18).trans (slotJ [10, 15] (by rw [hsz]; decide) (by kernel_rfl))).trans (hF 15 (by decide))
      clear hρ hF hcst hfun sl0 fin
      exact opv_val (by go_simp <;> rfl) ⟨gw_self _, rfl⟩
    · refine owes_v (Go.Op.pick (Go.Operand.tmp 8) (Go.Operand.tmp 19) (Go.Operand.const (Go.Value.bool false))) 4 [5, 16] (by kernel_rfl) (by kernel_rfl) (by kernel_rfl) rfl fun vals w1 ρ hG hF hρ hcst hfun => ?_
      have e8 : ρ (.tmp 8) = .bool true := ((hρ 8).trans (slotJ [5, 16] (by rw [hsz]; decide) (by kernel_rfl))).trans (hF 5 (by decide))
      have e19 : ρ (.tmp 19) = .bool true := ((hρ 19).trans (slotJ [5, 16] (by rw [hsz]; decide) (by kernel_rfl))).trans (hF 16 (by decide))
      clear hρ hF hfun sl0 fin
      exact opv_val (by go_simp <;> rfl) ⟨gw_self _, rfl⟩
    · exact owes_mvj 17 20 (by kernel_rfl) (by kernel_rfl) (by kernel_rfl) (by kernel_rfl) (by rw [hsz]; decide) (fun v w h => h)
    · refine owes_vt 18 true (Go.Op.move (Go.Operand.tmp 0)) 31 [] (by kernel_rfl) (by kernel_rfl) (by kernel_rfl) (fun _ _ h => h) (by rw [hsz]; kernel_rfl) (by kernel_rfl) rfl fun vals w1 ρ hG hF hρ hcst hfun => ?_
      have e0 : ρ (.tmp 0) = .pointer (some ⟨D, 0, none⟩) := ((hρ 0).trans (slotO [] (by kernel_rfl))).trans sl0
      clear hρ hF hcst hfun sl0 fin
      exact opv_val (by go_simp <;> rfl) ⟨gw_self _, rfl⟩
    · refine owes_vt 18 true (Go.Op.nilCheck (Go.Operand.tmp 22)) 0 [19] (by kernel_rfl) (by kernel_rfl) (by kernel_rfl) (fun _ _ h => h) (by rw [hsz]; kernel_rfl) (by kernel_rfl) rfl fun vals w1 ρ hG hF hρ hcst hfun => ?_
      have e22 : ρ (.tmp 22) = .pointer (some ⟨D, 0, none⟩) := ((hρ 22).trans (slotJ [19] (by rw [hsz]; decide) (by kernel_rfl))).trans (hF 19 (by decide))
      clear hρ hF hcst hfun sl0 fin
      exact opv_val (by go_simp <;> rfl) ⟨gw_self _, rfl⟩
    · refine owes_vt 18 true (Go.Op.fieldAddr 84 (Go.Operand.tmp 23) 3) 0 [20] (by kernel_rfl) (by kernel_rfl) (by kernel_rfl) (fun _ _ h => h) (by rw [hsz]; kernel_rfl) (by kernel_rfl) rfl fun vals w1 ρ hG hF hρ hcst hfun => ?_
      have e23 : ρ (.tmp 23) = .pointer (some ⟨D, 0, none⟩) := ((hρ 23).trans (slotJ [20] (by rw [hsz]; decide) (by kernel_rfl))).trans (hF 20 (by decide))
      clear hρ hF hcst hfun sl0 fin
      exact opv_val (by go_simp <;> rfl) ⟨gw_self _, rfl⟩
    · refine owes_vt 18 true (Go.Op.load 3 (Go.Operand.tmp 24)) 3 [21] (by kernel_rfl) (by kernel_rfl) (by kernel_rfl) (fun _ _ h => h) (by rw [hsz]; kernel_rfl) (by kernel_rfl) rfl fun vals w1 ρ hG hF hρ hcst hfun => ?_
      have e24 : ρ (.tmp 24) = .pointer (some ⟨D, 3, none⟩) := ((hρ 24).trans (slotJ [21] (by rw [hsz]; decide) (by kernel_rfl))).trans (hF 21 (by decide))
      have k := (hG.cell (p := ⟨D, 3, none⟩) hQ).trans d3
      clear hρ hF hcst hfun sl0 fin
      exact opv_val (by go_simp <;> rfl) ⟨gw_self _, rfl⟩
    · refine owes_vt 18 true (Go.Op.move (Go.Operand.tmp 0)) 31 [] (by kernel_rfl) (by kernel_rfl) (by kernel_rfl) (fun _ _ h => h) (by rw [hsz]; kernel_rfl) (by kernel_rfl) rfl fun vals w1 ρ hG hF hρ hcst hfun => ?_
      have e0 : ρ (.tmp 0) = .pointer (some ⟨D, 0, none⟩) := ((hρ 0).trans (slotO [] (by kernel_rfl))).trans sl0
      clear hρ hF hcst hfun sl0 fin
      exact opv_val (by go_simp <;> rfl) ⟨gw_self _, rfl⟩
    · refine owes_vt 18 true (Go.Op.call { callee := Go.Callee.value (Go.Operand.func 21), args := #[Go.Operand.tmp 26], argTypes := #[31] }) 3 [23] (by kernel_rfl) (by kernel_rfl) (by kernel_rfl) (fun _ _ h => h) (by rw [hsz]; kernel_rfl) (by kernel_rfl) rfl fun vals w1 ρ hG hF hρ hcst hfun => ?_
      have e26 : ρ (.tmp 26) = .pointer (some ⟨D, 0, none⟩) := ((hρ 26).trans (slotJ [23] (by rw [hsz]; decide) (by kernel_rfl))).trans (hF 23 (by decide))
      clear hρ hF hcst sl0 fin
      exact opv_enter (by go_simp <;> rfl) (of_ret (hp.out w1 hG))
    · refine owes_vt 18 true (Go.Op.binOp Go.BinOp.eql 3 (Go.Operand.tmp 25) (Go.Operand.tmp 27) 3) 4 [22, 24] (by kernel_rfl) (by kernel_rfl) (by kernel_rfl) (fun _ _ h => h) (by rw [hsz]; kernel_rfl) (by kernel_rfl) rfl fun vals w1 ρ hG hF hρ hcst hfun => ?_
      have e25 : ρ (.tmp 25) = .int .i64 z := ((hρ 25).trans (slotJ [22, 24] (by rw [hsz]; decide) (by kernel_rfl))).trans (hF 22 (by decide))
      have e27 : ρ (.tmp 27) = .int .i64 tp := ((hρ 27).trans (slotJ [22, 24] (by rw [hsz]; decide) (by kernel_rfl))).trans (hF 24 (by decide))
      subst hbb
      clear hρ hF hcst hfun sl0 fin
      exact opv_val (by go_simp <;> rfl) ⟨gw_self _, rfl⟩
    · refine owes_v (Go.Op.pick (Go.Operand.tmp 21) (Go.Operand.tmp 28) (Go.Operand.const (Go.Value.bool false))) 4 [18, 25] (by kernel_rfl) (by kernel_rfl) (by kernel_rfl) rfl fun vals w1 ρ hG hF hρ hcst hfun => ?_
      have e21 : ρ (.tmp 21) = .bool true := ((hρ 21).trans (slotJ [18, 25] (by rw [hsz]; decide) (by kernel_rfl))).trans (hF 18 (by decide))
      have e28 : ρ (.tmp 28) = .bool bb := ((hρ 28).trans (slotJ [18, 25] (by rw [hsz]; decide) (by kernel_rfl))).trans (hF 25 (by decide))
      clear hρ hF hfun sl0 fin
      exact opv_val (by go_simp <;> rfl) ⟨gw_self _, rfl⟩
    · exact owes_mvj 26 29 (by kernel_rfl) (by kernel_rfl) (by kernel_rfl) (by kernel_rfl) (by rw [hsz]; decide) (fun v w h => h)
  · intro vals w1 hG hF
    exact fin vals w1 hG (hF 27 (by decide +kernel))
section
variable {B Q : Nat} {S : Nat → Prop} {f : CoF} {roots : List Int} {xw : Value} {s : Sc} {n : Int} {l : List Nat}
theorem CoAt.step {w : World} {nx : Nat} (p : CoAt w B S Q f roots xw s n false) :
    Kept S w ((w.setCell ⟨Q, 3, none⟩ (.int .i64 nx)).setCell ⟨Q, 4, none⟩ (.int .u64 (n + 1))) ∧ CoAt ((w.setCell ⟨Q, 3, none⟩ (.int .i64 nx)).setCell ⟨Q, 4, none⟩ (.int .u64 (n + 1))) B S Q f roots xw ⟨s.c, s.qs, nx⟩ (n + 1) false := by
  have K2 := Kept.set w Q 3 (.int .i64 nx)
  have K3 := Kept.set (w.setCell ⟨Q, 3, none⟩ (.int .i64 nx)) Q 4 (.int .u64 (n + 1))
  have SQ : S Q := p.inc Q (by simp)
  have s2 := K2.size
  have s3 := K3.size
  have q4 := p.CQ
  refine ⟨(K2.more fun k e => by rw [e]; exact SQ).trans (K3.more fun k e => by rw [e]; exact SQ), ⟨?_, ?_, ?_, ?_, p.CQ, p.ne, p.neR, fun k h => by have := p.own k h; omega, p.inc⟩⟩
  · exact (p.cy.kept K2 (fun j hj => by omega)).kept K3 (fun j hj => by omega)
  · exact (p.blk.set 3 (.int .i64 nx)).set 4 (.int .u64 (n + 1))
  · exact K3.ow (K2.ow p.rr (fun k hk e => p.neR (e ▸ hk))) (fun k hk e => p.neR (e ▸ hk))
  · exact K3.ow (K2.ow p.ww (fun k hk e => (p.ne k hk).1 e)) (fun k hk e => (p.ne k hk).1 e)
theorem once_scan (w : World) (p : CoAt w B S Q f roots xw s n false) (hL : LenC s.c) (hO : OkC l f.b f.t s.c) (hrl : roots.length ≤ 100000) (hq : ¬ s.qs.length < roots.length) (hql : s.qs.length ≤ 100000) (ha : s.sc < s.c.top) (hg : goodX (s.c.T.getD s.sc 0#64) (s.c.top - s.sc) = true) (hp : PtL l s.c s.sc (P0 (s.c.T.getD s.sc 0#64)) 0) (hlb : ∀ y ∈ l, y < 8192) (hn0 : 0 ≤ n) (hn1 : n < 9223372036854775807) :
    Calls Try.prog 42 #[.pointer (some ⟨Q, 0, none⟩)] w (OnceP w B S Q f roots xw s n ((scanC s.sc (P0 (s.c.T.getD s.sc 0#64)) 0 s.c).map fun d => ⟨d, s.qs, s.sc + szX (s.c.T.getD s.sc 0#64)⟩)) := by
  obtain ⟨A, c, A2, c2, e1, e2⟩ := p.form
  have hk := p.blk
  rw [e1, e2] at hk
  obtain ⟨k0, k1, k2, k3, k4, k5⟩ := hk.six
  obtain ⟨cc1, cc2⟩ := p.cys
  have hQ := p.blk.lt
  have HSc := fun W (hb : Below w.heap.size w W) => scan_c W (p.cy.below hb) hL hO s.sc ha hg hp hlb
  have HP := Lib.hid p
  have t1 : ¬ (s.qs.length : Int) < (roots.length : Int) := by omega
  have t2 : (roots.length : Int) ≤ 100000 := by omega
  have t3 : (s.qs.length : Int) ≤ 100000 := by omega
  obtain ⟨i, hi⟩ : ∃ i, i = s.qs.length := ⟨_, rfl⟩
  obtain ⟨N, hN⟩ : ∃ N, N = roots.length := ⟨_, rfl⟩
  obtain ⟨C, hC⟩ : ∃ C, C = f.C := ⟨_, rfl⟩
  have HI := Lib.hid (And.intro hi (And.intro hN (And.intro hC (And.intro e1 e2))))
  obtain ⟨at_, hat⟩ : ∃ i, i = s.sc := ⟨_, rfl⟩
  obtain ⟨nx, hnx⟩ : ∃ i, i = s.sc + szX (s.c.T.getD s.sc 0#64) := ⟨_, rfl⟩
  have tn : (nx : Int) ≤ 100000 := by
    have h1 := (goodX_out hg).2.2
    have h2 := hL.2.1
    have h3 := hL.2.2
    omega
  rw [← hi] at t1 t3 k2
  rw [← hN] at t1 t2 k1
  rw [← hC] at k0
  rw [← hnx] at HSc
  have hk3 : w.cell? ⟨Q, 3, none⟩ = some (.int .i64 (at_ : Int)) := by rw [hat]; exact k3
  have hSc : Hid (∀ W, Below w.heap.size w W → Calls Try.prog 52 #[.pointer (some ⟨C, 0, none⟩), .int .i64 (at_ : Int)] W (ScanR W B f.H1 f.H2 f.C f.s1 f.g1 f.v1 f.s2 f.g2 f.v2 f.b f.t f.e l s.c nx (scanC s.sc (P0 (s.c.T.getD s.sc 0#64)) 0 s.c))) := by rw [hC, hat]; exact Lib.hid HSc
  rw [← hnx]
  obtain ⟨G, hG⟩ : ∃ G, G = CyS f.s2 f.v1 f.v2 := ⟨_, rfl⟩
  rw [← hG] at cc2
  have HGe := Lib.hid hG
  clear hk hL hO hi hN hC cc1 HSc e1 e2 p hrl hG k3 hat hnx hg hp hlb ha hq hql
  cases hr : scanC s.sc (P0 (s.c.T.getD s.sc 0#64)) 0 s.c with
  | none =>
    rw [hr] at hSc
    have HA : Hid (∀ W, Below w.heap.size w W → Calls Try.prog 52 #[.pointer (some ⟨C, 0, none⟩), .int .i64 (at_ : Int)] W (fun e w2 => ∃ v, e = .returned v ∧ Kept G W w2 ∧ AndV (.tuple #[.int .i64 0, .int .i64 6]) (fun z => ∃ d, CyAt z B f.H1 f.H2 f.C f.s1 f.g1 f.v1 f.s2 f.g2 f.v2 f.b f.t f.e d) v w2)) := Lib.hid fun W hW => (hSc.out W hW).mono fun r w2 h => ⟨_, h.1, by rw [HGe.out]; exact h.2.2, rfl, h.2.1⟩
    clear hSc hr
    go_enter Try.func42, Try.ntmps42
    go_wp2_with fail
    refine oc7 _ _ _ Q C G at_ 0 6 _ hQ cc2 k0 hk3 (fun _ _ h g => h.imp fun _ h => h.below g) HA rfl ?_ ?_
    · rfl
    intro vals w4 hG h4 h5 hcall
    unfold IsV at h4 h5
    simp only [putO, Act.put, List.setIfInBounds_toArray, List.set_cons_zero, List.set_cons_succ, h4, h5]
    have HE := Lib.hid (And.intro hcall.2 hG)
    clear hG h4 h5 hcall k0 k1 k2 hk3 k4 k5
    go_wp2_with fail
    go_ret
    have h1 := HE.out.2
    rw [HGe.out] at h1
    obtain ⟨d, hd⟩ := HE.out.1
    exact ⟨rfl, h1.more fun k hk => (HP.out.cys.1 k hk).1, _, HP.out.toCy h1 hd⟩
  | some d =>
    rw [hr] at hSc
    have HA : Hid (∀ W, Below w.heap.size w W → Calls Try.prog 52 #[.pointer (some ⟨C, 0, none⟩), .int .i64 (at_ : Int)] W (fun e w2 => ∃ v, e = .returned v ∧ Kept G W w2 ∧ AndV (.tuple #[.int .i64 (nx : Int), .int .i64 0]) (fun z => CyAt z B f.H1 f.H2 f.C f.s1 f.g1 f.v1 f.s2 f.g2 f.v2 f.b f.t f.e d) v w2)) := Lib.hid fun W hW => (hSc.out W hW).mono fun r w2 h => ⟨_, h.1, by rw [HGe.out]; exact h.2.2.1, rfl, h.2.1⟩
    clear hSc hr
    go_enter Try.func42, Try.ntmps42
    go_wp2_with fail
    refine oc7 _ _ _ Q C G at_ nx 0 _ hQ cc2 k0 hk3 (fun _ _ h g => h.below g) HA rfl ?_ ?_
    · rfl
    intro vals w4 hG h4 h5 hcall
    unfold IsV at h4 h5
    simp only [putO, Act.put, List.setIfInBounds_toArray, List.set_cons_zero, List.set_cons_succ, h4, h5]
    rw [HGe.out] at hG
    have p4 := HP.out.toCy hG hcall.2
    obtain ⟨g0, g1, g2, g3, g4, g5⟩ := p4.blk.six
    have gf3 := p4.blk.free 3
    have gf4 := p4.blk.free 4
    have hQ4 := p4.blk.lt
    have HE := Lib.hid (And.intro hG p4)
    clear hG h4 h5 hcall k0 k1 k2 hk3 k4 k5 p4
    go_wp2_with fail
    go_ret
    obtain ⟨x1, x2⟩ := HE.out.2.step (nx := nx)
    exact ⟨rfl, (HE.out.1.more fun k hk => (HP.out.cys.1 k hk).1).trans x1, _, _, x2, fun k hk => .inl hk⟩
/-- Done. -/
theorem done_c (w : World) (p : CoAt w B S Q f roots xw s n false) (hrl : roots.length ≤ 100000) (hql : s.qs.length ≤ 100000) :
    Calls Try.prog 19 #[.pointer (some ⟨Q, 0, none⟩)] w (RetP (.bool (decide (s.qs.length = roots.length ∧ s.sc = s.c.top))) w) := by
  obtain ⟨A, c, A2, c2, e1, e2⟩ := p.form
  have hk := p.blk
  rw [e1, e2] at hk
  obtain ⟨k0, k1, k2, k3, k4, k5⟩ := hk.six
  have hQ := p.blk.lt
  have hF := Lib.hid (fun W (hb : Below w.heap.size w W) => scfree_c W (p.below hb))
  obtain ⟨i, hi⟩ : ∃ i, i = s.qs.length := ⟨_, rfl⟩
  obtain ⟨N, hN⟩ : ∃ N, N = roots.length := ⟨_, rfl⟩
  obtain ⟨z, hz⟩ : ∃ z, z = s.sc := ⟨_, rfl⟩
  obtain ⟨tp, htp⟩ : ∃ z, z = s.c.top := ⟨_, rfl⟩
  rw [← hi] at k2
  rw [← hN] at k1
  rw [← hz] at k3
  rw [← htp] at hF
  rw [← hi, ← hN, ← hz, ← htp]
  clear hk e1 e2 p hrl hql hi hN hz htp
  by_cases hc : (i : Int) = (N : Int)
  · obtain ⟨bb, hbb⟩ : ∃ bb, bb = decide ((z : Int) = (tp : Int)) := ⟨_, rfl⟩
    have e : decide (i = N ∧ z = tp) = bb := by rw [hbb]; exact decide_eq_decide.2 ⟨fun h => by omega, fun h => ⟨by omega, by omega⟩⟩
    rw [e]
    clear e
    go_enter Try.func19, Try.ntmps19
    go_wp2_with fail
    refine dn_b _ _ _ Q i N c c2 A A2 z tp bb hQ k1 k2 k3 k5 hc hbb hF rfl ?_ ?_
    · rfl
    intro vals w1 hG h2
    unfold IsV at h2
    simp only [putD, Act.put, List.setIfInBounds_toArray, List.set_cons_zero, List.set_cons_succ, h2]
    have HB := Lib.hid hG
    clear hG h2 k0 k1 k2 k3 k4 k5 hc hbb
    go_wp2_with fail
    go_ret
    exact ⟨rfl, HB.out⟩
  · have e : decide (i = N ∧ z = tp) = false := decide_eq_false (fun h => hc (by omega))
    rw [e]
    clear e
    go_enter Try.func19, Try.ntmps19
    go_wp2_with fail
    refine dn_a _ _ _ Q i N c c2 A A2 hQ k1 k2 k5 hc rfl ?_ ?_
    · rfl
    intro vals w1 hG h2
    unfold IsV at h2
    simp only [putD, Act.put, List.setIfInBounds_toArray, List.set_cons_zero, List.set_cons_succ, h2]
    have HB := Lib.hid hG
    clear hG h2 k0 k1 k2 k3 k4 k5 hc
    go_wp2_with fail
    go_ret
    exact ⟨rfl, HB.out⟩
end
end Go.Proofs.Ytbanbpphadgoiaa
