/- graph.Words, graph.Named. Conditions: lengths. -/
import Derived.Test.YtdppnggchpchgaaDoorGrA
namespace Go.Proofs.YtdppnggchpchgaaDoor
set_option linter.unusedVariables false
set_option linter.unusedSimpArgs false
open Go.RowKit
theorem oneI : One Tryd.prog 40 3 (.int .i64 0) 8 :=
  ⟨by kernel_rfl, by
    have h : (Tryd.prog.info? 3).map (fun i => (i.zero, i.size, i.bytes)) = some (some (.int .i64 0), 1, 8) := by kernel_rfl
    obtain ⟨i, h1, h2, h3, h4⟩ := info_parts h
    exact ⟨i, h1, h2, h3, h4⟩, rfl⟩
def szN (x : Nv) : Int := sizeH x.ps.length x.bs.length false 0
def wordsL : List Nv → Int
  | [] => 0
  | x :: r => szN x + wordsL r
theorem szN_le (x : Nv) : 0 ≤ szN x ∧ szN x ≤ 300 := by
  unfold szN sizeH
  by_cases h : rightH x.ps.length x.bs.length false 0 = true ∧ (false = false)
  · rw [if_pos h]
    rcases rightH_out h.1 with ⟨h1, _⟩ | ⟨_, h2, h3, h4, h5, h6⟩
    · cases h1
    · omega
  · rw [if_neg h]; omega
theorem wordsL_app (a b : List Nv) : wordsL (a ++ b) = wordsL a + wordsL b := by
  induction a with
  | nil => simp [wordsL]
  | cons x r ih => simp only [List.cons_append, wordsL, ih]; omega
theorem wordsL_le (l : List Nv) : 0 ≤ wordsL l ∧ wordsL l ≤ 300 * (l.length : Int) := by
  induction l with
  | nil => simp [wordsL]
  | cons x r ih =>
    have := szN_le x
    simp only [wordsL, List.length_cons]
    omega
theorem take_snoc {α : Type} (l : List α) (k : Nat) (h : k < l.length) : l.take (k + 1) = l.take k ++ [l[k]] := List.take_succ_eq_append_getElem h
theorem rd1_new2 (w : World) (o : Obj) (E : TypeId) (t : Int) : Rd iV ((w.alloc o).alloc (.cells #[.int .i64 t] E)) (w.heap.size + 2) (some ⟨w.heap.size + 1, 0, none⟩) [t] := by
  have := rd1_new (f := iV) (w := w.alloc o) (E := E) (y := t) (u := .int .i64 t) rfl
  simpa using this
set_option maxHeartbeats 1000000
set_option maxRecDepth 100000
theorem named_g (w : World) (g : Gv) (hg : g.At w w.heap.size) (hs : g.Small) : Calls Tryd.prog 42 #[g.v] w fun e w' => ∃ v, e = .returned v ∧ Ow iV 3 w' (w.heap.size + 1) v (g.r.map (·.t)) ∧ Below w.heap.size w w' := by
  obtain ⟨R, hR⟩ : ∃ R, R = g.r.map (·.t) := ⟨_, rfl⟩
  rw [← hR]
  have HR := Lib.hid hR
  have HG := Lib.hid hg
  obtain ⟨A, ca, A2, ca2, ns, rs⟩ := g
  obtain ⟨N, hN⟩ : ∃ N, N = ns.length := ⟨_, rfl⟩
  obtain ⟨M, hM⟩ : ∃ M, M = rs.length := ⟨_, rfl⟩
  have HM := Lib.hid hM
  have q0 : (M : Int) ≤ 1000000 := by rw [hM]; exact Int.ofNat_le.2 hs.2.1
  unfold Gv.v Gv.vn Gv.vr
  simp only
  rw [← hN, ← hM]
  clear hR hg hs hN hM
  go_enter Tryd.func42, Tryd.ntmps42
  go_wp2_with fail
  go_loopw [3, 9] (fun o i W => ∃ (k : Nat), i = .int .i64 k ∧ k ≤ M ∧ Ow iV 3 W (w.heap.size + 1) o ((rs.take k).map (·.t)) ∧ Bk W w.heap.size 25 #[.slice A N ca, .slice A2 M ca2] ∧ Below w.heap.size w W) (fun _ i _ => M - (intOf i).toNat)
  case atStart => exact ⟨0, rfl, Nat.zero_le _, Ow.nil_ _ _ _ _, Bk.new _ _ _, (by repeat (first | with_reducible assumption | with_reducible exact Below.refl _ _ | with_reducible apply bdN | with_reducible apply Below.drew | with_reducible refine Below.alloc ?_ (by simp) _ | with_reducible refine Below.setCell ?_ (by simp) _))⟩
  case round =>
    obtain ⟨k, rfl, hk, ho, hb1, hB⟩ := hrel
    have c1 := hb1.two.2
    have hsz := hb1.lt
    have HBB := Lib.hid (And.intro hb1 hB)
    have HO := Lib.hid ho
    by_cases hlt : k < M
    · have hkl : k < rs.length := by rw [← HM.out]; exact hlt
      obtain ⟨x, hx⟩ : ∃ x, x = rs[k] := ⟨_, rfl⟩
      obtain ⟨ad, rfl, hc2, hc3⟩ : ∃ ad, A2 = some ad ∧ wr.cell? (ad.add (k * 2)) = some (.string x.s) ∧ wr.cell? ⟨(ad.add (k * 2)).block, (ad.add (k * 2)).off + 1, none⟩ = some (.int .i64 x.t) := by
        obtain ⟨ad, e, _, h1, h2⟩ := (HG.out.r.below hB) k hkl
        exact ⟨ad, e, by rw [hx]; exact h1, by rw [hx]; exact h2⟩
      have p1 : (0 : Int) ≤ (k : Int) := by omega
      have p2 : (k : Int) < (M : Int) := by omega
      have hnext : (rs.take k).map (·.t) ++ [x.t] = (rs.take (k + 1)).map (·.t) := by
        rw [take_snoc rs k hkl, List.map_append, hx]; rfl
      have hlen : ((rs.take k).map (·.t)).length + 1 ≤ 4294967296 := by rw [List.length_map, List.length_take]; omega
      obtain ⟨s, t⟩ := x
      simp only at hc2 hc3 hnext
      have HNx := Lib.hid hnext
      clear hx hb1 hB hkl ho hnext
      obtain ⟨A3, m3, n3, rfl⟩ : ∃ A m n, u3 = Value.slice A m n := by
        obtain ⟨A, c, e, _⟩ := HO.out.form
        exact ⟨A, _, c, e⟩
      have hA : ∀ k, (Value.slice A3 m3 n3).ownBlock = some k → k < wr.heap.size := fun k e => (HO.out.lt k e).2
      have HA := Lib.hid hA
      clear hA
      go_wp2_with (at_builtin; refine wp_app oneI iV_one rfl (.tmp 13) (.tmp 16) rfl (w.heap.size + 1) _ ((rs.take k).map (·.t)) rfl ((HO.out.alloc _).alloc _) (some ⟨wr.heap.size + 1, 0, none⟩) 1 1 [t] rfl rfl (wr.heap.size + 2) (rd1_new2 wr _ _ t) hlen (by decide) (by simp; omega) ?_; intro v5 w5 ho5 hb5 hg5 _)
      have HK := Lib.hid (show Ow iV 3 w5 (w.heap.size + 1) v5 ((rs.take (k + 1)).map (·.t)) ∧ Bk w5 w.heap.size 25 #[.slice A N ca, .slice (some ad) M ca2] ∧ Below w.heap.size w w5 from by
        rw [← HNx.out]
        refine ⟨ho5, ((HBB.out.1.alloc _).alloc _).below hb5 (by omega), ?_⟩
        exact ((HBB.out.2.alloc HBB.out.2.size _).alloc (by have := HBB.out.2.size; simp; omega) _).trans (hb5.mono (by omega)))
      clear ho5 hb5 hg5
      go_roundw
      case rel => exact ⟨k + 1, by go_num, by omega, HK.out⟩
      case measure => (first | (simp [intOf]; done) | (simp [intOf]; omega))
    · have hkN : (rs.take k).map (·.t) = R := by rw [HR.out, show k = rs.length by rw [← HM.out]; omega, List.take_length]
      have HK := Lib.hid hkN
      clear hkN hb1 hB ho
      go_wp2_with fail
      go_ret
      rw [← HK.out]
      exact ⟨_, rfl, HO.out, HBB.out.2⟩
end Go.Proofs.YtdppnggchpchgaaDoor
