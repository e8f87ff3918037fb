/- The law's Few. Conditions: what a graph that came in has. -/
import Derived.Test.YtkkjnahjmomjgaaGrC
namespace Go.Proofs.Ytkkjnahjmomjgaa
set_option linter.unusedVariables false
set_option linter.unusedSimpArgs false
open Go.RowKit
def FewP (g : Gv) : Prop := g.n.length ≤ 60 ∧ g.r.length ≤ 80 ∧ (∀ x ∈ g.n, x.ps.length ≤ 70 ∧ x.bs.length ≤ 1100) ∧ ∀ r ∈ g.r, r.s.size ≤ 40
theorem FewP.small {g : Gv} (h : FewP g) : g.Small := ⟨by have := h.1; omega, by have := h.2.1; omega, fun x hx => by have := h.2.2.1 x hx; omega⟩
def FewQ (g : Gv) (w : World) (e : Ending) (w' : World) : Prop := ∃ b, e = .returned (.bool b) ∧ (b = true → FewP g) ∧ Below w.heap.size w w'
set_option maxHeartbeats 1000000
set_option maxRecDepth 100000
theorem few_c (w : World) (g : Gv) (hg : g.At w w.heap.size) : Calls Try.prog 8 #[g.v] w (FewQ g w) := by
  have HG := Lib.hid hg
  obtain ⟨A, ca, A2, ca2, ns, rs⟩ := g
  obtain ⟨N, hN⟩ : ∃ N, N = ns.length := ⟨_, rfl⟩
  obtain ⟨M, hM⟩ : ∃ M, M = rs.length := ⟨_, rfl⟩
  have HN := Lib.hid hN
  have HM := Lib.hid hM
  unfold Gv.v Gv.vn Gv.vr
  simp only
  rw [← hN, ← hM]
  clear hg hN hM
  go_enter Try.func8, Try.ntmps8
  by_cases hN60 : 60 < N
  · have t1 : (60 : Int) < (N : Int) := by omega
    go_wp2_with fail
    go_ret
    exact ⟨_, rfl, (fun h => nomatch h), (by repeat (first | with_reducible assumption | with_reducible exact Below.refl _ _ | with_reducible apply bdN | with_reducible apply Below.drew | with_reducible refine Below.alloc ?_ (by simp) _ | with_reducible refine Below.setCell ?_ (by simp) _))⟩
  have t1 : ¬ (60 : Int) < (N : Int) := by omega
  by_cases hM80 : 80 < M
  · have t2 : (80 : Int) < (M : Int) := by omega
    go_wp2_with fail
    go_ret
    exact ⟨_, rfl, (fun h => nomatch h), (by repeat (first | with_reducible assumption | with_reducible exact Below.refl _ _ | with_reducible apply bdN | with_reducible apply Below.drew | with_reducible refine Below.alloc ?_ (by simp) _ | with_reducible refine Below.setCell ?_ (by simp) _))⟩
  have t2 : ¬ (80 : Int) < (M : Int) := by omega
  go_wp2_with fail
  have q0 : (N : Int) ≤ 60 := by omega
  have q1 : (M : Int) ≤ 80 := by omega
  clear t1 t2 hN60 hM80
  go_loopw [3] (fun i W => ∃ k : Nat, i = .int .i64 k ∧ k ≤ N ∧ Hid (∀ x ∈ ns.take k, x.ps.length ≤ 70 ∧ x.bs.length ≤ 1100) ∧ Bk W w.heap.size 25 #[.slice A N ca, .slice A2 M ca2] ∧ Below w.heap.size w W) (fun i _ => N - (intOf i).toNat)
  case atStart => exact ⟨0, rfl, Nat.zero_le _, Lib.hid (fun x hx => by cases hx), Bk.new _ _ _, (by repeat (first | with_reducible assumption | with_reducible exact Below.refl _ _ | with_reducible apply bdN | with_reducible apply Below.drew | with_reducible refine Below.alloc ?_ (by simp) _ | with_reducible refine Below.setCell ?_ (by simp) _))⟩
  case round =>
    obtain ⟨k, rfl, hk, hck, hb1, hB⟩ := hrel
    have c0 := hb1.two.1
    have hsz := hb1.lt
    have c1 := hb1.two.2
    by_cases hlt : k < N
    · have hkl : k < ns.length := by rw [← HN.out]; exact hlt
      obtain ⟨x, hx⟩ : ∃ x, x = ns[k] := ⟨_, rfl⟩
      obtain ⟨ad, rfl, hc2, hc3, hxa⟩ : ∃ ad, A = some ad ∧ wr.cell? (ad.add (k * 2)) = some x.vp ∧ wr.cell? ⟨(ad.add (k * 2)).block, (ad.add (k * 2)).off + 1, none⟩ = some x.vd ∧ x.At wr wr.heap.size := by
        obtain ⟨ad, e, _, h1, h2, h3⟩ := (HG.out.n.below hB) k hkl
        exact ⟨ad, e, by rw [hx]; exact h1, by rw [hx]; exact h2, by rw [hx]; exact h3.more hB.size⟩
      have HS := Lib.hid (show x.ps.length ≤ 70 → x.bs.length ≤ 1100 → ∀ y ∈ ns.take (k + 1), y.ps.length ≤ 70 ∧ y.bs.length ≤ 1100 from fun h1 h2 y hy => by
        rw [List.take_succ_eq_append_getElem hkl, ← hx] at hy
        rcases List.mem_append.1 hy with hy | hy
        · exact hck.out y hy
        · rw [List.mem_singleton.1 hy]; exact ⟨h1, h2⟩)
      have p1 : (0 : Int) ≤ (k : Int) := by omega
      have p2 : (k : Int) < (N : Int) := by omega
      have HBB := Lib.hid (And.intro hb1 hB)
      clear hx hb1 hB hkl hxa hck
      obtain ⟨xA, xc, xD, xd, xps, xbs⟩ := x
      obtain ⟨xn, hxn⟩ : ∃ n, n = xps.length := ⟨_, rfl⟩
      obtain ⟨xm, hxm⟩ : ∃ n, n = xbs.length := ⟨_, rfl⟩
      unfold Nv.vp at hc2
      unfold Nv.vd at hc3
      simp only at hc2 hc3 HS
      rw [← hxn] at hc2 HS
      rw [← hxm] at hc3 HS
      clear hxn hxm
      by_cases g1 : 70 < xn
      · have t1 : (70 : Int) < (xn : Int) := by omega
        go_wp2_with fail
        go_ret
        exact ⟨_, rfl, (fun h => nomatch h), HBB.out.2⟩
      have t1 : ¬ (70 : Int) < (xn : Int) := by omega
      by_cases g2 : 1100 < xm
      · have t2 : (1100 : Int) < (xm : Int) := by omega
        go_wp2_with fail
        go_ret
        exact ⟨_, rfl, (fun h => nomatch h), HBB.out.2⟩
      have t2 : ¬ (1100 : Int) < (xm : Int) := by omega
      have HX := Lib.hid (HS.out (by omega) (by omega))
      clear HS g1 g2
      go_wp2_with fail
      go_roundw
      case rel => exact ⟨k + 1, by go_num, by omega, HX, HBB.out⟩
      case measure => (first | (simp [intOf]; done) | (simp [intOf]; omega))
    · have hkN : k = N := by omega
      have HF := Lib.hid (show ∀ x ∈ ns, x.ps.length ≤ 70 ∧ x.bs.length ≤ 1100 from by
        have := hck.out
        rwa [List.take_of_length_le (by rw [← HN.out]; omega)] at this)
      have HB1 := Lib.hid (And.intro hb1 hB)
      clear hkN hck hb1 hB
      go_wp2_with fail
      go_loopw [4] (fun i W => ∃ k : Nat, i = .int .i64 k ∧ k ≤ M ∧ Hid (∀ x ∈ rs.take k, x.s.size ≤ 40) ∧ Bk W w.heap.size 25 #[.slice A N ca, .slice A2 M ca2] ∧ Below w.heap.size w W) (fun i _ => M - (intOf i).toNat)
      case atStart => exact ⟨0, rfl, Nat.zero_le _, Lib.hid (fun x hx => by cases hx), HB1.out⟩
      case round =>
        obtain ⟨k, rfl, hk, hck, hb1, hB⟩ := hrel
        have c0 := hb1.two.1
        have hsz := hb1.lt
        have c1 := hb1.two.2
        have HB3 := Lib.hid (And.intro hb1 hB)
        by_cases hlt : k < M
        · have hkl : k < rs.length := by rw [← HM.out]; exact hlt
          obtain ⟨x, hx⟩ : ∃ x, x = rs[k] := ⟨_, rfl⟩
          obtain ⟨ad, rfl, hc2, hc3⟩ : ∃ ad, A2 = some ad ∧ wr.cell? (ad.add (k * 2)) = some (.string x.s) ∧ wr.cell? ⟨(ad.add (k * 2)).block, (ad.add (k * 2)).off + 1, none⟩ = some (.int .i64 x.t) := by
            obtain ⟨ad, e, _, h1, h2⟩ := (HG.out.r.below hB) k hkl
            exact ⟨ad, e, by rw [hx]; exact h1, by rw [hx]; exact h2⟩
          have HS := Lib.hid (show x.s.size ≤ 40 → ∀ y ∈ rs.take (k + 1), y.s.size ≤ 40 from fun h1 y hy => by
            rw [List.take_succ_eq_append_getElem hkl, ← hx] at hy
            rcases List.mem_append.1 hy with hy | hy
            · exact hck.out y hy
            · rw [List.mem_singleton.1 hy]; exact h1)
          have p1 : (0 : Int) ≤ (k : Int) := by omega
          have p2 : (k : Int) < (M : Int) := by omega
          clear hx hb1 hB hkl hck
          by_cases g1 : 40 < x.s.size
          · have t1 : (40 : Int) < (x.s.size : Int) := by omega
            go_wp2_with fail
            go_ret
            exact ⟨_, rfl, (fun h => nomatch h), HB3.out.2⟩
          have t1 : ¬ (40 : Int) < (x.s.size : Int) := by omega
          have HX := Lib.hid (HS.out (by omega))
          clear HS g1
          go_wp2_with fail
          go_roundw
          case rel => exact ⟨k + 1, by go_num, by omega, HX, HB3.out⟩
          case measure => (first | (simp [intOf]; done) | (simp [intOf]; omega))
        · have hkM : k = M := by omega
          have HE := Lib.hid (show FewP ⟨A, ca, A2, ca2, ns, rs⟩ from by
            refine ⟨by show ns.length ≤ 60; have := HN.out; omega, by show rs.length ≤ 80; have := HM.out; omega, HF.out, ?_⟩
            have := hck.out
            rwa [List.take_of_length_le (by rw [← HM.out]; omega)] at this)
          have HB4 := Lib.hid hB
          clear hkM hck hb1 hB HB3
          go_wp2_with fail
          go_ret
          exact ⟨_, rfl, fun _ => HE.out, HB4.out⟩
end Go.Proofs.Ytkkjnahjmomjgaa
