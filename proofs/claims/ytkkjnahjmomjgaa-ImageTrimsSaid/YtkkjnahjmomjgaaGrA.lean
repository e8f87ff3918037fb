/- Graphs in memory; graph.has, checkNode. Conditions: lengths. -/
import Derived.Test.YtkkjnahjmomjgaaRegT
import Derived.Test.YtkkjnahjmomjgaaHeadB
import Derived.Test.YtkkjnahjmomjgaaFrame
namespace Go.Proofs.Ytkkjnahjmomjgaa
set_option linter.unusedVariables false
set_option linter.unusedSimpArgs false
open Go.RowKit
def iV (z : Int) : Value := .int .i64 z
theorem iV_one : ∀ x : Int, (iV x).oneCell' = true := fun _ => rfl
/-- A node: where its pointers and its bytes lie, and what they are. -/
structure Nv where
  A : Option Addr
  c : Nat
  D : Option Addr
  d : Nat
  ps : List Int
  bs : List (BitVec 8)
def Nv.vp (x : Nv) : Value := .slice x.A x.ps.length x.c
def Nv.vd (x : Nv) : Value := .slice x.D x.bs.length x.d
def Nv.v (x : Nv) : Value := .agg #[x.vp, x.vd]
structure Nv.At (w : World) (B : Nat) (x : Nv) : Prop where
  p : Rd iV w B x.A x.ps
  b : Rd b8 w B x.D x.bs
  pc : x.ps.length ≤ x.c
  bc : x.bs.length ≤ x.d
def NRow (w : World) (B : Nat) (A : Option Addr) (xs : List Nv) : Prop := ∀ i (h : i < xs.length), ∃ ad, A = some ad ∧ ad.block < B ∧ w.cell? (ad.add (i * 2)) = some (xs[i]).vp ∧ w.cell? ⟨(ad.add (i * 2)).block, (ad.add (i * 2)).off + 1, none⟩ = some (xs[i]).vd ∧ (xs[i]).At w B
structure Rv where
  s : ByteArray
  t : Int
def Rv.v (x : Rv) : Value := .agg #[.string x.s, .int .i64 x.t]
def RoRow (w : World) (B : Nat) (A : Option Addr) (xs : List Rv) : Prop := ∀ i (h : i < xs.length), ∃ ad, A = some ad ∧ ad.block < B ∧ w.cell? (ad.add (i * 2)) = some (.string (xs[i]).s) ∧ w.cell? ⟨(ad.add (i * 2)).block, (ad.add (i * 2)).off + 1, none⟩ = some (.int .i64 (xs[i]).t)
structure Gv where
  A : Option Addr
  c : Nat
  A2 : Option Addr
  c2 : Nat
  n : List Nv
  r : List Rv
def Gv.vn (g : Gv) : Value := .slice g.A g.n.length g.c
def Gv.vr (g : Gv) : Value := .slice g.A2 g.r.length g.c2
def Gv.v (g : Gv) : Value := .agg #[g.vn, g.vr]
structure Gv.At (w : World) (B : Nat) (g : Gv) : Prop where
  n : NRow w B g.A g.n
  r : RoRow w B g.A2 g.r
  nc : g.n.length ≤ g.c
  rc : g.r.length ≤ g.c2
section
variable {w w' : World} {B B' : Nat}
theorem Nv.At.below {x : Nv} (h : x.At w B) (hb : Below B w w') : x.At w' B := ⟨h.p.below hb, h.b.below hb, h.pc, h.bc⟩
theorem Nv.At.more {x : Nv} (h : x.At w B) (hb : B ≤ B') : x.At w B' := ⟨h.p.more hb, h.b.more hb, h.pc, h.bc⟩
theorem NRow.below {A : Option Addr} {xs : List Nv} (h : NRow w B A xs) (hb : Below B w w') : NRow w' B A xs := fun i hi => by
  obtain ⟨ad, h1, h2, h3, h4, h5⟩ := h i hi
  have hbk : (ad.add (i * 2)).block < B := by rw [add_block]; exact h2
  exact ⟨ad, h1, h2, (hb.cell hbk).trans h3, (hb.cell (p := ⟨(ad.add (i * 2)).block, (ad.add (i * 2)).off + 1, none⟩) hbk).trans h4, h5.below hb⟩
theorem NRow.more {A : Option Addr} {xs : List Nv} (h : NRow w B A xs) (hb : B ≤ B') : NRow w B' A xs := fun i hi => by
  obtain ⟨ad, h1, h2, h3, h4, h5⟩ := h i hi
  exact ⟨ad, h1, by omega, h3, h4, h5.more hb⟩
theorem RoRow.below {A : Option Addr} {xs : List Rv} (h : RoRow w B A xs) (hb : Below B w w') : RoRow w' B A xs := fun i hi => by
  obtain ⟨ad, h1, h2, h3, h4⟩ := h i hi
  have hbk : (ad.add (i * 2)).block < B := by rw [add_block]; exact h2
  exact ⟨ad, h1, h2, (hb.cell hbk).trans h3, (hb.cell (p := ⟨(ad.add (i * 2)).block, (ad.add (i * 2)).off + 1, none⟩) hbk).trans h4⟩
theorem RoRow.more {A : Option Addr} {xs : List Rv} (h : RoRow w B A xs) (hb : B ≤ B') : RoRow w B' A xs := fun i hi => by
  obtain ⟨ad, h1, h2, h3, h4⟩ := h i hi
  exact ⟨ad, h1, by omega, h3, h4⟩
theorem Gv.At.below {g : Gv} (h : g.At w B) (hb : Below B w w') : g.At w' B := ⟨h.n.below hb, h.r.below hb, h.nc, h.rc⟩
theorem Gv.At.more {g : Gv} (h : g.At w B) (hb : B ≤ B') : g.At w B' := ⟨h.n.more hb, h.r.more hb, h.nc, h.rc⟩
theorem Gv.At.up {g : Gv} (h : g.At w w.heap.size) (hb : Below w.heap.size w w') : g.At w' w'.heap.size := (h.below hb).more hb.size
theorem Nv.At.up {x : Nv} (h : x.At w w.heap.size) (hb : Below w.heap.size w w') : x.At w' w'.heap.size := (h.below hb).more hb.size
end
/-- A graph that is not out of measure. -/
def Gv.Small (g : Gv) : Prop := g.n.length ≤ 1000000 ∧ g.r.length ≤ 1000000 ∧ ∀ x ∈ g.n, x.ps.length ≤ 1000000 ∧ x.bs.length ≤ 1000000
def hasG (N : Nat) (p : Int) : Bool := decide (1 ≤ p ∧ p ≤ (N : Int))
def okP (N : Nat) (p : Int) : Bool := p == 0 || hasG N p
def ckNode (N : Nat) (x : Nv) : Int := if x.ps.all (okP N) = true then (if 64 < x.ps.length ∨ 1024 < x.bs.length then 3 else 0) else 1
set_option maxHeartbeats 400000
set_option maxRecDepth 100000
theorem has_c (w : World) (a1 a2 : Option Addr) (n c m d : Nat) (p : Int) : Calls Try.prog 58 #[.agg #[.slice a1 n c, .slice a2 m d], .int .i64 p] w (RetP (.bool (hasG n p)) w) := by
  unfold hasG
  go_enter Try.func58, Try.ntmps58
  go_wp2
  all_goals go_ret
  all_goals refine ret_b ?_ (by repeat (first | with_reducible assumption | with_reducible exact Below.refl _ _ | with_reducible apply bdN | with_reducible apply Below.drew | with_reducible refine Below.alloc ?_ (by simp) _ | with_reducible refine Below.setCell ?_ (by simp) _))
  all_goals first | (rw [Bool.eq_iff_iff]; simp; omega) | (simp; omega)
theorem checkNode_c (w : World) (a1 a2 : Option Addr) (N c m d : Nat) (x : Nv) (hx : x.At w w.heap.size) (hl : x.ps.length ≤ 1000000) : Calls Try.prog 56 #[.agg #[.slice a1 N c, .slice a2 m d], x.v] w (RetP (.int .i64 (ckNode N x)) w) := by
  obtain ⟨R, hR⟩ : ∃ R, R = ckNode N x := ⟨_, rfl⟩
  rw [← hR]
  have HR := Lib.hid hR
  have HX := Lib.hid hx
  obtain ⟨A, ca, D, da, ps, bs⟩ := x
  obtain ⟨L, hL⟩ : ∃ L, L = ps.length := ⟨_, rfl⟩
  obtain ⟨M, hM⟩ : ∃ M, M = bs.length := ⟨_, rfl⟩
  have HL := Lib.hid hL
  have HM := Lib.hid hM
  have HHas := Lib.hid (fun W p => has_c W a1 a2 N c m d p)
  unfold Nv.v Nv.vp Nv.vd
  simp only
  rw [← hL, ← hM]
  have q0 : (L : Int) ≤ 1000000 := by rw [hL]; exact Int.ofNat_le.2 hl
  clear hR hx hL hM hl
  go_enter Try.func56, Try.ntmps56
  go_wp2_with fail
  go_loopw [10] (fun i W => ∃ k : Nat, i = .int .i64 k ∧ k ≤ L ∧ Hid ((ps.take k).all (okP N) = true) ∧ Bk W w.heap.size 25 #[.slice a1 N c, .slice a2 m d] ∧ Bk W (w.heap.size + 1) 54 #[.slice A L ca, .slice D M da] ∧ Below w.heap.size w W) (fun i _ => L - (intOf i).toNat)
  case atStart =>
    exact ⟨0, rfl, Nat.zero_le _, Lib.hid (by simp), (Bk.new _ _ _).alloc _, by have := Bk.new (w.alloc (.cells #[.slice a1 N c, .slice a2 m d] 25)) 54 #[.slice A L ca, .slice D M da]; simpa using this, (by repeat (first | with_reducible assumption | with_reducible exact Below.refl _ _ | with_reducible apply bdN | with_reducible apply Below.drew | with_reducible refine Below.alloc ?_ (by simp) _ | with_reducible refine Below.setCell ?_ (by simp) _))⟩
  case round =>
    obtain ⟨k, rfl, hk, hall, hb1, hb2, hB⟩ := hrel
    have c0 := hb1.two.1
    have c1 := hb1.two.2
    have d0 := hb2.two.1
    have d1 := hb2.two.2
    by_cases hlt : k < L
    · have hkl : k < ps.length := by rw [← HL.out]; exact hlt
      obtain ⟨p, hp⟩ : ∃ p, p = ps[k] := ⟨_, rfl⟩
      obtain ⟨ad, rfl, hcell⟩ : ∃ ad, A = some ad ∧ wr.cell? (ad.add k) = some (.int .i64 p) := by
        obtain ⟨ad, e, _, hc⟩ := (HX.out.p.below hB) k hkl
        exact ⟨ad, e, by rw [hp]; exact hc⟩
      have p1 : (0 : Int) ≤ (k : Int) := by omega
      have p2 : (k : Int) < (L : Int) := by omega
      have HBB := Lib.hid (And.intro hb1 (And.intro hb2 hB))
      have hnext : okP N p = true → (ps.take (k + 1)).all (okP N) = true := fun e => by
        rw [List.take_succ_eq_append_getElem hkl, List.all_append, hall.out, ← hp]
        simp [e]
      have hstop : okP N p = false → R = 1 := fun e => by
        rw [HR.out]
        unfold ckNode
        rw [if_neg]
        intro h
        have := List.all_eq_true.1 h p (by rw [hp]; exact List.getElem_mem _)
        rw [e] at this
        cases this
      have HN := Lib.hid (And.intro hnext hstop)
      clear hp hb1 hb2 hB hnext hstop hkl
      by_cases h0 : p = 0
      · subst h0
        go_wp2_with fail
        go_roundw
        case rel => exact ⟨k + 1, by go_num, by omega, Lib.hid (HN.out.1 rfl), HBB.out⟩
        case measure => (first | (simp [intOf]; done) | (simp [intOf]; omega))
      · have h1 : (p != 0) = true := by simp [h0]
        have hok : okP N p = hasG N p := by unfold okP; simp [h0]
        obtain ⟨q, hq⟩ : ∃ q, q = hasG N p := ⟨_, rfl⟩
        rw [← hq] at hok
        have HQ := Lib.hid (HHas.out wr p)
        rw [← hq] at HQ
        clear hq h0
        cases q with
        | true =>
          go_wp2_with fail
          refine Calls.mono HQ.out ?_
          rintro r w2 ⟨rfl, b2⟩
          have HB2 := Lib.hid (And.intro (HBB.out.1.below b2 HBB.out.1.lt) (And.intro (HBB.out.2.1.below b2 HBB.out.2.1.lt) (HBB.out.2.2.trans (b2.mono HBB.out.2.2.size))))
          clear b2 HQ
          go_wp2_with fail
          go_roundw
          case rel => exact ⟨k + 1, by go_num, by omega, Lib.hid (HN.out.1 hok), HB2.out⟩
          case measure => (first | (simp [intOf]; done) | (simp [intOf]; omega))
        | false =>
          go_wp2_with fail
          refine Calls.mono HQ.out ?_
          rintro r w2 ⟨rfl, b2⟩
          have HB2 := Lib.hid (HBB.out.2.2.trans (b2.mono HBB.out.2.2.size))
          clear b2 HQ
          go_wp2_with fail
          go_ret
          rw [HN.out.2 hok]
          exact ⟨rfl, HB2.out⟩
    · have hkL : k = L := by omega
      have hfull : ps.all (okP N) = true := by
        have := hall.out
        rw [hkL, HL.out, List.take_length] at this
        exact this
      have HBB := Lib.hid hB
      have hR2 : R = if 64 < L ∨ 1024 < M then 3 else 0 := by rw [HR.out]; unfold ckNode; rw [if_pos hfull, HL.out, HM.out]
      clear hb1 hb2 hB hkL hfull hall
      by_cases h1 : 64 < L
      · rw [if_pos (.inl h1)] at hR2
        have HR2 := Lib.hid hR2
        have t1 : decide ((64 : Int) < (L : Int)) = true := by simp; omega
        clear hR2 h1
        go_wp2_with fail
        go_ret
        rw [HR2.out]
        exact ⟨rfl, HBB.out⟩
      · have t1 : decide ((64 : Int) < (L : Int)) = false := by simp; omega
        by_cases h2 : 1024 < M
        · rw [if_pos (.inr h2)] at hR2
          have HR2 := Lib.hid hR2
          have t2 : decide ((1024 : Int) < (M : Int)) = true := by simp; omega
          clear hR2 h2
          go_wp2_with fail
          go_ret
          rw [HR2.out]
          exact ⟨rfl, HBB.out⟩
        · rw [if_neg (by omega)] at hR2
          have HR2 := Lib.hid hR2
          have t2 : decide ((1024 : Int) < (M : Int)) = false := by simp; omega
          clear hR2
          go_wp2_with fail
          go_ret
          rw [HR2.out]
          exact ⟨rfl, HBB.out⟩
end Go.Proofs.Ytkkjnahjmomjgaa
