/- What the functions of package geom answer of a geometry that may be. Conditions: it may be. -/
import Derived.Test.YtjdifejnnkplaaaGeomA
namespace Go.Proofs.Ytjdifejnnkplaaa
set_option linter.unusedVariables false
set_option linter.unusedSimpArgs false
open Go.RowKit
structure OkG (s l n : Int) : Prop where
  s1 : 64 ≤ s
  s2 : s ≤ 1024
  s8 : s % 8 = 0
  l1 : 8 ≤ l
  l2 : l ≤ 1024
  n1 : 64 ≤ n
  n2 : n ≤ 8192
  tot : totG s l n ≤ 16384
theorem okG_out {s l n : Int} (h : okG s l n = true) : OkG s l n := by
  unfold okG at h
  rw [decide_eq_true_eq] at h
  obtain ⟨⟨⟨a, b, c⟩, d, e, f, g⟩, k⟩ := h
  exact ⟨a, b, c, d, e, f, g, k⟩
theorem okG_in {s l n : Int} (h : OkG s l n) : okG s l n = true := by
  unfold okG
  rw [decide_eq_true_eq]
  exact ⟨⟨⟨h.s1, h.s2, h.s8⟩, h.l1, h.l2, h.n1, h.n2⟩, h.tot⟩
theorem chkG_ok {s l n : Int} (h : OkG s l n) : chkG s l n = 0 := by unfold chkG; rw [okG_in h]; rfl
theorem boxedAA {w w1 : World} {E F : TypeId} {a b : Array Value} (hb : Below ((w.alloc (.cells a E)).alloc (.cells b F)).heap.size ((w.alloc (.cells a E)).alloc (.cells b F)) w1) :
    Bk w1 w.heap.size E a ∧ Bk w1 (w.heap.size + 1) F b ∧ Below w.heap.size w w1 := by
  have h2 := Bk.new (w.alloc (.cells a E)) F b
  simp only [World.size_alloc] at h2
  refine ⟨((Bk.new w E a).alloc _).below hb (by simp; omega), h2.below hb (by simp), ?_⟩
  exact (((Gw.alloc w _).alloc (by simp) _)).trans (hb.mono (by simp; omega))
set_option maxHeartbeats 400000
def spcG (s l n i : Int) : Int × Int := if i = 0 then (2 + l, oneG s n) else if i = 1 then (2 + l + oneG s n, oneG s n) else (0, 0)
def plV (p : Int × Int) : Value := .agg #[.int .i64 p.1, .int .i64 p.2]
end Go.Proofs.Ytjdifejnnkplaaa
