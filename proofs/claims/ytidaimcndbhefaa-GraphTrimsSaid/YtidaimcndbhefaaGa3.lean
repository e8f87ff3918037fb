/- Texts joined: GtA GrD AppS CrcA CrcD GrO GrP GrR. -/
import Derived.Test.YtidaimcndbhefaaGa2
import Derived.LoopTactic
import Derived.Lib.SmallJoins
import Derived.Lib.AppendZeros
/- The law's Few. Conditions: what a graph that came in has. -/
namespace Go.Proofs.Ytidaimcndbhefaa
set_option linter.unusedVariables false
set_option linter.unusedSimpArgs false
open Go.RowKit
def FewP (g : Gv) : Prop := g.n.length ≤ 60 ∧ g.r.length ≤ 80 ∧ (∀ x ∈ g.n, x.ps.length ≤ 70 ∧ x.bs.length ≤ 1100) ∧ ∀ r ∈ g.r, r.s.size ≤ 40
theorem FewP.small {g : Gv} (h : FewP g) : g.Small := ⟨by have := h.1; omega, by have := h.2.1; omega, fun x hx => by have := h.2.2.1 x hx; omega⟩
def FewQ (g : Gv) (w : World) (e : Ending) (w' : World) : Prop := ∃ b, e = .returned (.bool b) ∧ (b = true → FewP g) ∧ Below w.heap.size w w'
set_option maxHeartbeats 1000000
set_option maxRecDepth 100000
theorem few_c (w : World) (g : Gv) (hg : g.At w w.heap.size) : Calls Try.prog 9 #[g.v] w (FewQ g w) := by
  have HG := Lib.hid hg
  obtain ⟨A, ca, A2, ca2, ns, rs⟩ := g
  obtain ⟨N, hN⟩ : ∃ N, N = ns.length := ⟨_, rfl⟩
  obtain ⟨M, hM⟩ : ∃ M, M = rs.length := ⟨_, rfl⟩
  have HN := Lib.hid hN
  have HM := Lib.hid hM
  unfold Gv.v Gv.vn Gv.vr
  simp only
  rw [← hN, ← hM]
  clear hg hN hM
  go_enter Try.func9, Try.ntmps9
  by_cases hN60 : 60 < N
  · have t1 : (60 : Int) < (N : Int) := by omega
    go_wp2_with fail
    go_ret
    exact ⟨_, rfl, (fun h => nomatch h), (by repeat (first | with_reducible assumption | with_reducible exact Below.refl _ _ | with_reducible apply bdN | with_reducible apply Below.drew | with_reducible refine Below.alloc ?_ (by simp) _ | with_reducible refine Below.setCell ?_ (by simp) _))⟩
  have t1 : ¬ (60 : Int) < (N : Int) := by omega
  by_cases hM80 : 80 < M
  · have t2 : (80 : Int) < (M : Int) := by omega
    go_wp2_with fail
    go_ret
    exact ⟨_, rfl, (fun h => nomatch h), (by repeat (first | with_reducible assumption | with_reducible exact Below.refl _ _ | with_reducible apply bdN | with_reducible apply Below.drew | with_reducible refine Below.alloc ?_ (by simp) _ | with_reducible refine Below.setCell ?_ (by simp) _))⟩
  have t2 : ¬ (80 : Int) < (M : Int) := by omega
  go_wp2_with fail
  have q0 : (N : Int) ≤ 60 := by omega
  have q1 : (M : Int) ≤ 80 := by omega
  clear t1 t2 hN60 hM80
  go_loopw [3] (fun i W => ∃ k : Nat, i = .int .i64 k ∧ k ≤ N ∧ Hid (∀ x ∈ ns.take k, x.ps.length ≤ 70 ∧ x.bs.length ≤ 1100) ∧ Bk W w.heap.size 25 #[.slice A N ca, .slice A2 M ca2] ∧ Below w.heap.size w W) (fun i _ => N - (Go.RowKit.intOf i).toNat)
  case atStart => exact ⟨0, rfl, Nat.zero_le _, Lib.hid (fun x hx => by cases hx), Bk.new _ _ _, (by repeat (first | with_reducible assumption | with_reducible exact Below.refl _ _ | with_reducible apply bdN | with_reducible apply Below.drew | with_reducible refine Below.alloc ?_ (by simp) _ | with_reducible refine Below.setCell ?_ (by simp) _))⟩
  case round =>
    obtain ⟨k, rfl, hk, hck, hb1, hB⟩ := hrel
    have c0 := hb1.two.1
    have hsz := hb1.lt
    have c1 := hb1.two.2
    by_cases hlt : k < N
    · have hkl : k < ns.length := by rw [← HN.out]; exact hlt
      obtain ⟨x, hx⟩ : ∃ x, x = ns[k] := ⟨_, rfl⟩
      obtain ⟨ad, rfl, hc2, hc3, hxa⟩ : ∃ ad, A = some ad ∧ wr.cell? (ad.add (k * 2)) = some x.vp ∧ wr.cell? ⟨(ad.add (k * 2)).block, (ad.add (k * 2)).off + 1, none⟩ = some x.vd ∧ x.At wr wr.heap.size := by
        obtain ⟨ad, e, _, h1, h2, h3⟩ := (HG.out.n.below hB) k hkl
        exact ⟨ad, e, by rw [hx]; exact h1, by rw [hx]; exact h2, by rw [hx]; exact h3.more hB.size⟩
      have HS := Lib.hid (show x.ps.length ≤ 70 → x.bs.length ≤ 1100 → ∀ y ∈ ns.take (k + 1), y.ps.length ≤ 70 ∧ y.bs.length ≤ 1100 from fun h1 h2 y hy => by
        rw [List.take_succ_eq_append_getElem hkl, ← hx] at hy
        rcases List.mem_append.1 hy with hy | hy
        · exact hck.out y hy
        · rw [List.mem_singleton.1 hy]; exact ⟨h1, h2⟩)
      have p1 : (0 : Int) ≤ (k : Int) := by omega
      have p2 : (k : Int) < (N : Int) := by omega
      have HBB := Lib.hid (And.intro hb1 hB)
      clear hx hb1 hB hkl hxa hck
      obtain ⟨xA, xc, xD, xd, xps, xbs⟩ := x
      obtain ⟨xn, hxn⟩ : ∃ n, n = xps.length := ⟨_, rfl⟩
      obtain ⟨xm, hxm⟩ : ∃ n, n = xbs.length := ⟨_, rfl⟩
      unfold Nv.vp at hc2
      unfold Nv.vd at hc3
      simp only at hc2 hc3 HS
      rw [← hxn] at hc2 HS
      rw [← hxm] at hc3 HS
      clear hxn hxm
      by_cases g1 : 70 < xn
      · have t1 : (70 : Int) < (xn : Int) := by omega
        go_wp2_with fail
        go_ret
        exact ⟨_, rfl, (fun h => nomatch h), HBB.out.2⟩
      have t1 : ¬ (70 : Int) < (xn : Int) := by omega
      by_cases g2 : 1100 < xm
      · have t2 : (1100 : Int) < (xm : Int) := by omega
        go_wp2_with fail
        go_ret
        exact ⟨_, rfl, (fun h => nomatch h), HBB.out.2⟩
      have t2 : ¬ (1100 : Int) < (xm : Int) := by omega
      have HX := Lib.hid (HS.out (by omega) (by omega))
      clear HS g1 g2
      go_wp2_with fail
      go_roundw
      case rel => exact ⟨k + 1, by go_num, by omega, HX, HBB.out⟩
      case measure => (first | (simp [Go.RowKit.intOf]; done) | (simp [Go.RowKit.intOf]; omega))
    · have hkN : k = N := by omega
      have HF := Lib.hid (show ∀ x ∈ ns, x.ps.length ≤ 70 ∧ x.bs.length ≤ 1100 from by
        have := hck.out
        rwa [List.take_of_length_le (by rw [← HN.out]; omega)] at this)
      have HB1 := Lib.hid (And.intro hb1 hB)
      clear hkN hck hb1 hB
      go_wp2_with fail
      go_loopw [4] (fun i W => ∃ k : Nat, i = .int .i64 k ∧ k ≤ M ∧ Hid (∀ x ∈ rs.take k, x.s.size ≤ 40) ∧ Bk W w.heap.size 25 #[.slice A N ca, .slice A2 M ca2] ∧ Below w.heap.size w W) (fun i _ => M - (Go.RowKit.intOf i).toNat)
      case atStart => exact ⟨0, rfl, Nat.zero_le _, Lib.hid (fun x hx => by cases hx), HB1.out⟩
      case round =>
        obtain ⟨k, rfl, hk, hck, hb1, hB⟩ := hrel
        have c0 := hb1.two.1
        have hsz := hb1.lt
        have c1 := hb1.two.2
        have HB3 := Lib.hid (And.intro hb1 hB)
        by_cases hlt : k < M
        · have hkl : k < rs.length := by rw [← HM.out]; exact hlt
          obtain ⟨x, hx⟩ : ∃ x, x = rs[k] := ⟨_, rfl⟩
          obtain ⟨ad, rfl, hc2, hc3⟩ : ∃ ad, A2 = some ad ∧ wr.cell? (ad.add (k * 2)) = some (.string x.s) ∧ wr.cell? ⟨(ad.add (k * 2)).block, (ad.add (k * 2)).off + 1, none⟩ = some (.int .i64 x.t) := by
            obtain ⟨ad, e, _, h1, h2⟩ := (HG.out.r.below hB) k hkl
            exact ⟨ad, e, by rw [hx]; exact h1, by rw [hx]; exact h2⟩
          have HS := Lib.hid (show x.s.size ≤ 40 → ∀ y ∈ rs.take (k + 1), y.s.size ≤ 40 from fun h1 y hy => by
            rw [List.take_succ_eq_append_getElem hkl, ← hx] at hy
            rcases List.mem_append.1 hy with hy | hy
            · exact hck.out y hy
            · rw [List.mem_singleton.1 hy]; exact h1)
          have p1 : (0 : Int) ≤ (k : Int) := by omega
          have p2 : (k : Int) < (M : Int) := by omega
          clear hx hb1 hB hkl hck
          by_cases g1 : 40 < x.s.size
          · have t1 : (40 : Int) < (x.s.size : Int) := by omega
            go_wp2_with fail
            go_ret
            exact ⟨_, rfl, (fun h => nomatch h), HB3.out.2⟩
          have t1 : ¬ (40 : Int) < (x.s.size : Int) := by omega
          have HX := Lib.hid (HS.out (by omega))
          clear HS g1
          go_wp2_with fail
          go_roundw
          case rel => exact ⟨k + 1, by go_num, by omega, HX, HB3.out⟩
          case measure => (first | (simp [Go.RowKit.intOf]; done) | (simp [Go.RowKit.intOf]; omega))
        · have hkM : k = M := by omega
          have HE := Lib.hid (show FewP ⟨A, ca, A2, ca2, ns, rs⟩ from by
            refine ⟨by show ns.length ≤ 60; have := HN.out; omega, by show rs.length ≤ 80; have := HM.out; omega, HF.out, ?_⟩
            have := hck.out
            rwa [List.take_of_length_le (by rw [← HM.out]; omega)] at this)
          have HB4 := Lib.hid hB
          clear hkM hck hb1 hB HB3
          go_wp2_with fail
          go_ret
          exact ⟨_, rfl, fun _ => HE.out, HB4.out⟩
end Go.Proofs.Ytidaimcndbhefaa
/- graph.Words, graph.Named. Conditions: lengths. -/
namespace Go.Proofs.Ytidaimcndbhefaa
set_option linter.unusedVariables false
set_option linter.unusedSimpArgs false
open Go.RowKit
theorem oneI : One Try.prog 26 3 (.int .i64 0) 8 :=
  ⟨by kernel_rfl, by
    have h : (Try.prog.info? 3).map (fun i => (i.zero, i.size, i.bytes)) = some (some (.int .i64 0), 1, 8) := by kernel_rfl
    obtain ⟨i, h1, h2, h3, h4⟩ := info_parts h
    exact ⟨i, h1, h2, h3, h4⟩, rfl⟩
def szN (x : Nv) : Int := sizeH x.ps.length x.bs.length false 0
def wordsL : List Nv → Int
  | [] => 0
  | x :: r => szN x + wordsL r
theorem szN_le (x : Nv) : 0 ≤ szN x ∧ szN x ≤ 300 := by
  unfold szN sizeH
  by_cases h : rightH x.ps.length x.bs.length false 0 = true ∧ (false = false)
  · rw [if_pos h]
    rcases rightH_out h.1 with ⟨h1, _⟩ | ⟨_, h2, h3, h4, h5, h6⟩
    · cases h1
    · omega
  · rw [if_neg h]; omega
theorem wordsL_app (a b : List Nv) : wordsL (a ++ b) = wordsL a + wordsL b := by
  induction a with
  | nil => simp [wordsL]
  | cons x r ih => simp only [List.cons_append, wordsL, ih]; omega
theorem wordsL_le (l : List Nv) : 0 ≤ wordsL l ∧ wordsL l ≤ 300 * (l.length : Int) := by
  induction l with
  | nil => simp [wordsL]
  | cons x r ih =>
    have := szN_le x
    simp only [wordsL, List.length_cons]
    omega
theorem take_snoc {α : Type} (l : List α) (k : Nat) (h : k < l.length) : l.take (k + 1) = l.take k ++ [l[k]] := List.take_succ_eq_append_getElem h
theorem rd1_new2 (w : World) (o : Obj) (E : TypeId) (t : Int) : Rd iV ((w.alloc o).alloc (.cells #[.int .i64 t] E)) (w.heap.size + 2) (some ⟨w.heap.size + 1, 0, none⟩) [t] := by
  have := rd1_new (f := iV) (w := w.alloc o) (E := E) (y := t) (u := .int .i64 t) rfl
  simpa using this
set_option maxHeartbeats 1000000
set_option maxRecDepth 100000
theorem words_c (w : World) (g : Gv) (hg : g.At w w.heap.size) (hs : g.Small) : Calls Try.prog 19 #[g.v] w (RetP (.int .i64 (wordsL g.n)) w) := by
  obtain ⟨R, hR⟩ : ∃ R, R = wordsL g.n := ⟨_, rfl⟩
  rw [← hR]
  have HR := Lib.hid hR
  have HG := Lib.hid hg
  obtain ⟨A, ca, A2, ca2, ns, rs⟩ := g
  obtain ⟨N, hN⟩ : ∃ N, N = ns.length := ⟨_, rfl⟩
  obtain ⟨M, hM⟩ : ∃ M, M = rs.length := ⟨_, rfl⟩
  have HN := Lib.hid hN
  have q0 : (N : Int) ≤ 1000000 := by rw [hN]; exact Int.ofNat_le.2 hs.1
  unfold Gv.v Gv.vn Gv.vr
  simp only
  rw [← hN, ← hM]
  clear hR hg hs hN hM
  go_enter Try.func19, Try.ntmps19
  go_wp2_with fail
  go_loopw [3, 9] (fun t i W => ∃ (k : Nat) (z : Int), i = .int .i64 k ∧ t = .int .i64 z ∧ k ≤ N ∧ Hid (z = wordsL (ns.take k)) ∧ Bk W w.heap.size 25 #[.slice A N ca, .slice A2 M ca2] ∧ Below w.heap.size w W) (fun _ i _ => N - (Go.RowKit.intOf i).toNat)
  case atStart => exact ⟨0, 0, rfl, rfl, Nat.zero_le _, Lib.hid (by simp [wordsL]), Bk.new _ _ _, (by repeat (first | with_reducible assumption | with_reducible exact Below.refl _ _ | with_reducible apply bdN | with_reducible apply Below.drew | with_reducible refine Below.alloc ?_ (by simp) _ | with_reducible refine Below.setCell ?_ (by simp) _))⟩
  case round =>
    obtain ⟨k, z, rfl, rfl, hk, hz, hb1, hB⟩ := hrel
    have c0 := hb1.two.1
    have hsz := hb1.lt
    have HBB := Lib.hid (And.intro hb1 hB)
    by_cases hlt : k < N
    · have hkl : k < ns.length := by rw [← HN.out]; exact hlt
      obtain ⟨x, hx⟩ : ∃ x, x = ns[k] := ⟨_, rfl⟩
      obtain ⟨ad, rfl, hc2, hc3⟩ : ∃ ad, A = some ad ∧ wr.cell? (ad.add (k * 2)) = some x.vp ∧ wr.cell? ⟨(ad.add (k * 2)).block, (ad.add (k * 2)).off + 1, none⟩ = some x.vd := by
        obtain ⟨ad, e, _, h1, h2, h3⟩ := (HG.out.n.below hB) k hkl
        exact ⟨ad, e, by rw [hx]; exact h1, by rw [hx]; exact h2⟩
      have p1 : (0 : Int) ≤ (k : Int) := by omega
      have p2 : (k : Int) < (N : Int) := by omega
      have hz2 : z + szN x = wordsL (ns.take (k + 1)) := by
        rw [take_snoc ns k hkl, wordsL_app, hz.out, hx]
        show _ = _ + (szN _ + 0)
        omega
      have hz3 : 0 ≤ z ∧ z ≤ 300000000 := by
        have := wordsL_le (ns.take k)
        rw [← hz.out, List.length_take] at this
        omega
      have hs3 := szN_le x
      obtain ⟨xA, xc, xD, xd, xps, xbs⟩ := x
      unfold Nv.vp at hc2
      unfold Nv.vd at hc3
      have HSz := Lib.hid (fun W => size_c (xps.length : Int) (xbs.length : Int) false 0 W)
      unfold szN at hz2 hs3
      simp only at hc2 hc3 hz2 hs3
      obtain ⟨u, hu⟩ : ∃ u, u = sizeH (xps.length : Int) (xbs.length : Int) false 0 := ⟨_, rfl⟩
      rw [← hu] at HSz hz2 hs3
      obtain ⟨xn, hxn⟩ : ∃ n, n = xps.length := ⟨_, rfl⟩
      obtain ⟨xm, hxm⟩ : ∃ n, n = xbs.length := ⟨_, rfl⟩
      rw [← hxn, ← hxm] at HSz
      rw [← hxn] at hc2
      rw [← hxm] at hc3
      have HZ2 := Lib.hid hz2
      have b1 := hz3.1
      have b2 := hz3.2
      have b3 := hs3.1
      have b4 := hs3.2
      clear hx hb1 hB hkl hz hz2 hz3 hs3 hu hxn hxm
      go_wp2_with fail
      refine Calls.mono (HSz.out _) ?_
      rintro r w2 ⟨rfl, b5⟩
      have b6 : Below wr.heap.size wr w2 := (Gw.alloc wr _).trans (b5.mono (by simp))
      have HB2 := Lib.hid (And.intro (HBB.out.1.below b6 hsz) (HBB.out.2.trans (b6.mono HBB.out.2.size)))
      clear b5 b6 HSz
      go_wp2_with fail
      go_roundw
      case rel => exact ⟨k + 1, z + u, by go_num, by go_num, by omega, HZ2, HB2.out⟩
      case measure => (first | (simp [Go.RowKit.intOf]; done) | (simp [Go.RowKit.intOf]; omega))
    · have hkN : z = R := by rw [HR.out, hz.out, show k = ns.length by rw [← HN.out]; omega, List.take_length]
      have HK := Lib.hid hkN
      clear hkN hb1 hB
      go_wp2_with fail
      go_ret
      rw [HK.out]
      exact ⟨rfl, HBB.out.2⟩
theorem named_g (w : World) (g : Gv) (hg : g.At w w.heap.size) (hs : g.Small) : Calls Try.prog 21 #[g.v] w fun e w' => ∃ v, e = .returned v ∧ Ow iV 3 w' (w.heap.size + 1) v (g.r.map (·.t)) ∧ Below w.heap.size w w' := by
  obtain ⟨R, hR⟩ : ∃ R, R = g.r.map (·.t) := ⟨_, rfl⟩
  rw [← hR]
  have HR := Lib.hid hR
  have HG := Lib.hid hg
  obtain ⟨A, ca, A2, ca2, ns, rs⟩ := g
  obtain ⟨N, hN⟩ : ∃ N, N = ns.length := ⟨_, rfl⟩
  obtain ⟨M, hM⟩ : ∃ M, M = rs.length := ⟨_, rfl⟩
  have HM := Lib.hid hM
  have q0 : (M : Int) ≤ 1000000 := by rw [hM]; exact Int.ofNat_le.2 hs.2.1
  unfold Gv.v Gv.vn Gv.vr
  simp only
  rw [← hN, ← hM]
  clear hR hg hs hN hM
  go_enter Try.func21, Try.ntmps21
  go_wp2_with fail
  go_loopw [3, 9] (fun o i W => ∃ (k : Nat), i = .int .i64 k ∧ k ≤ M ∧ Ow iV 3 W (w.heap.size + 1) o ((rs.take k).map (·.t)) ∧ Bk W w.heap.size 25 #[.slice A N ca, .slice A2 M ca2] ∧ Below w.heap.size w W) (fun _ i _ => M - (Go.RowKit.intOf i).toNat)
  case atStart => exact ⟨0, rfl, Nat.zero_le _, Ow.nil_ _ _ _ _, Bk.new _ _ _, (by repeat (first | with_reducible assumption | with_reducible exact Below.refl _ _ | with_reducible apply bdN | with_reducible apply Below.drew | with_reducible refine Below.alloc ?_ (by simp) _ | with_reducible refine Below.setCell ?_ (by simp) _))⟩
  case round =>
    obtain ⟨k, rfl, hk, ho, hb1, hB⟩ := hrel
    have c1 := hb1.two.2
    have hsz := hb1.lt
    have HBB := Lib.hid (And.intro hb1 hB)
    have HO := Lib.hid ho
    by_cases hlt : k < M
    · have hkl : k < rs.length := by rw [← HM.out]; exact hlt
      obtain ⟨x, hx⟩ : ∃ x, x = rs[k] := ⟨_, rfl⟩
      obtain ⟨ad, rfl, hc2, hc3⟩ : ∃ ad, A2 = some ad ∧ wr.cell? (ad.add (k * 2)) = some (.string x.s) ∧ wr.cell? ⟨(ad.add (k * 2)).block, (ad.add (k * 2)).off + 1, none⟩ = some (.int .i64 x.t) := by
        obtain ⟨ad, e, _, h1, h2⟩ := (HG.out.r.below hB) k hkl
        exact ⟨ad, e, by rw [hx]; exact h1, by rw [hx]; exact h2⟩
      have p1 : (0 : Int) ≤ (k : Int) := by omega
      have p2 : (k : Int) < (M : Int) := by omega
      have hnext : (rs.take k).map (·.t) ++ [x.t] = (rs.take (k + 1)).map (·.t) := by
        rw [take_snoc rs k hkl, List.map_append, hx]; rfl
      have hlen : ((rs.take k).map (·.t)).length + 1 ≤ 4294967296 := by rw [List.length_map, List.length_take]; omega
      obtain ⟨s, t⟩ := x
      simp only at hc2 hc3 hnext
      have HNx := Lib.hid hnext
      clear hx hb1 hB hkl ho hnext
      obtain ⟨A3, m3, n3, rfl⟩ : ∃ A m n, u3 = Value.slice A m n := by
        obtain ⟨A, c, e, _⟩ := HO.out.form
        exact ⟨A, _, c, e⟩
      have hA : ∀ k, (Value.slice A3 m3 n3).ownBlock = some k → k < wr.heap.size := fun k e => (HO.out.lt k e).2
      have HA := Lib.hid hA
      clear hA
      go_wp2_with (at_builtin; refine wp_app oneI iV_one rfl (.tmp 13) (.tmp 16) rfl (w.heap.size + 1) _ ((rs.take k).map (·.t)) rfl ((HO.out.alloc _).alloc _) (some ⟨wr.heap.size + 1, 0, none⟩) 1 1 [t] rfl rfl (wr.heap.size + 2) (rd1_new2 wr _ _ t) hlen (by decide) (by simp; omega) ?_; intro v5 w5 ho5 hb5 hg5 _)
      have HK := Lib.hid (show Ow iV 3 w5 (w.heap.size + 1) v5 ((rs.take (k + 1)).map (·.t)) ∧ Bk w5 w.heap.size 25 #[.slice A N ca, .slice (some ad) M ca2] ∧ Below w.heap.size w w5 from by
        rw [← HNx.out]
        refine ⟨ho5, ((HBB.out.1.alloc _).alloc _).below hb5 (by omega), ?_⟩
        exact ((HBB.out.2.alloc HBB.out.2.size _).alloc (by have := HBB.out.2.size; simp; omega) _).trans (hb5.mono (by omega)))
      clear ho5 hb5 hg5
      go_roundw
      case rel => exact ⟨k + 1, by go_num, by omega, HK.out⟩
      case measure => (first | (simp [Go.RowKit.intOf]; done) | (simp [Go.RowKit.intOf]; omega))
    · have hkN : (rs.take k).map (·.t) = R := by rw [HR.out, show k = rs.length by rw [← HM.out]; omega, List.take_length]
      have HK := Lib.hid hkN
      clear hkN hb1 hB ho
      go_wp2_with fail
      go_ret
      rw [← HK.out]
      exact ⟨_, rfl, HO.out, HBB.out.2⟩
end Go.Proofs.Ytidaimcndbhefaa
/- append of elements of many cells to a row of one's own. Conditions: lengths. -/
namespace Go.Proofs.Ytidaimcndbhefaa
set_option linter.unusedVariables false
set_option linter.unusedSimpArgs false
open Go.RowKit
set_option maxRecDepth 100000
set_option maxHeartbeats 400000
/-- append of elements of many cells to a row of one's own. -/
theorem wp_appR {P : Program} {t e : TypeId} {z : Value} {bytes : Nat} {w : World} {ops : Array Oper} {rest : List Oper} {o : Oper} {a : Act} {Q : Exit → Act → World → Prop} (size : Nat) (i : TypeInfo) (ht : P.underlying t = some (.slice e)) (hi : P.info? e = some i) (hz : i.zero = some z)
    (hsize : i.size = size) (hby : i.bytes = bytes) (hzs : z.cells.size = size) (hsz : 0 < size) (hgd : o.guard = none) (s x : Operand)
    (ho : o.op = .call { callee := .builtin .append, args := #[s, x], argTypes := #[t, t] })
    (base : Nat) (v : Value) (n : Nat) (xs : List Value) (hs : a.eval s = v) (hown : w.ownsRow base e size v n xs)
    (ad : Addr) (m c : Nat) (news : List Value) (hx : a.eval x = .slice (some ad) m c) (hl : news.length = m * size) (hnews : ∀ j u, news[j]? = some u → w.cell? (ad.add j) = some u) (h1 : ∀ u ∈ news, u.oneCell' = true)
    (h63 : n + m ≤ maxLen) (hbytes : (n + m) * bytes ≤ 140737488355328) (hbase : base ≤ w.heap.size)
    (h : ∀ v' w', w'.ownsRow base e size v' (n + m) (xs ++ news) → Below base w w' → w.grownBy w' v.ownBlock → (v'.ownBlock = v.ownBlock ∨ v'.ownBlock = some w.heap.size) → wpList P ops Q rest (a.put o.dst v') w') : wpList P ops Q (o :: rest) a w := by
  refine wpList_plain hgd fun K hK => ?_
  obtain ⟨v', w', hrun, h2, h3, _, h5⟩ := run_append_own_at (P := P) w base t o.type e i z size bytes ht hi hz hsize hby hzs hsz v n xs hown ad m c news hl hnews h1 h63 hbytes hbase
  unfold Oper.wp execOp
  simp only [ho, resolve, invoke, builtin, Sem.run_bind, Sem.run_pure, Result.andThen_ok, List.map_toArray, List.map_cons, List.map_nil, hs, hx, hrun]
  exact hK _ _ (h v' w' h2 ((Below.refl _ _).grown h3 hbase (fun k hk => (World.ownsRow.lt hown k hk).1)) h3 h5)
end Go.Proofs.Ytidaimcndbhefaa
/- What crc.Add and crc.Sum answer. Conditions: at most 2^31 bytes. -/
namespace Go.Proofs.Ytidaimcndbhefaa
set_option linter.unusedVariables false
set_option linter.unusedSimpArgs false
open Go.RowKit
def tabL : List (BitVec 32) := [0x00000000, 0x1db71064, 0x3b6e20c8, 0x26d930ac, 0x76dc4190, 0x6b6b51f4, 0x4db26158, 0x5005713c, 0xedb88320, 0xf00f9344, 0xd6d6a3e8, 0xcb61b38c, 0x9b64c2b0, 0x86d3d2d4, 0xa00ae278, 0xbdbdf21c]
def idx (r : BitVec 32) : Nat := (r &&& 15#32).toNat
def tab1 (i : Nat) : BitVec 32 := tabL.getD i 0
def turnC (r : BitVec 32) : BitVec 32 := (r >>> 4) ^^^ tab1 (idx r)
def stepC (r : BitVec 32) (x : BitVec 8) : BitVec 32 := turnC (turnC (r ^^^ x.setWidth 32))
def addC (s : BitVec 32) (bs : List (BitVec 8)) : BitVec 32 := ~~~ bs.foldl stepC (~~~ s)
def u32v (x : BitVec 32) : Value := .int .u32 (U32 x)
theorem idx_lt (r : BitVec 32) : idx r < 16 := by
  unfold idx
  rw [BitVec.toNat_and, show (15#32).toNat = 2 ^ 4 - 1 from rfl, Nat.and_two_pow_sub_one_eq_mod]
  omega
theorem and15 (r : BitVec 32) : bits .and .u32 (U32 r) 15 = (idx r : Int) := by
  rw [show (15 : Int) = U32 15#32 from by decide +kernel, andU32]; rfl
theorem shr4U32 (r : BitVec 32) : U32 r / (16 : Int) = U32 (r >>> 4) := by
  rw [show (16 : Int) = 2 ^ 4 from by decide, shrU32]
theorem notU32 (s : BitVec 32) : bits .xor .u32 IntKind.u32.max (U32 s) = U32 (~~~ s) := by
  rw [show IntKind.u32.max = U32 (BitVec.allOnes 32) from by decide +kernel, xorU32]
  congr 1
  try (apply BitVec.eq_of_getLsbD_eq; intro i hi; simp [hi])
theorem xorU32U8 (r : BitVec 32) (x : BitVec 8) : bits .xor .u32 (U32 r) (U8 x) = U32 (r ^^^ x.setWidth 32) := by rw [u8_u32, xorU32]
theorem wrapu8u32 (x : BitVec 8) : IntKind.u32.wrap (U8 x) = U32 (x.setWidth 32) := by rw [u8_u32, wrapU32]
theorem tab_cell {W : World} {g : Nat} {E : TypeId} (h : Bk W g E #[.int .u32 0, .int .u32 498536548, .int .u32 997073096, .int .u32 651767980, .int .u32 1994146192, .int .u32 1802195444, .int .u32 1303535960, .int .u32 1342533948, .int .u32 3988292384, .int .u32 4027552580, .int .u32 3604390888, .int .u32 3412177804, .int .u32 2607071920, .int .u32 2262029012, .int .u32 2685067896, .int .u32 3183342108]) (i : Nat) (hi : i < 16) : W.cell? ⟨g, i, none⟩ = some (.int .u32 (U32 (tab1 i))) := by
  rw [h.cell]
  have : i = 0 ∨ i = 1 ∨ i = 2 ∨ i = 3 ∨ i = 4 ∨ i = 5 ∨ i = 6 ∨ i = 7 ∨ i = 8 ∨ i = 9 ∨ i = 10 ∨ i = 11 ∨ i = 12 ∨ i = 13 ∨ i = 14 ∨ i = 15 := by omega
  rcases this with rfl | rfl | rfl | rfl | rfl | rfl | rfl | rfl | rfl | rfl | rfl | rfl | rfl | rfl | rfl | rfl <;> rfl
set_option maxHeartbeats 400000
end Go.Proofs.Ytidaimcndbhefaa
/- The register of crc is linear; it is the bitwise one; a bit's turn can be undone. No conditions. -/
namespace Go.Proofs.Ytidaimcndbhefaa
set_option linter.unusedVariables false
set_option linter.unusedSimpArgs false
open Go.RowKit
def bitC (r : BitVec 32) : BitVec 32 := if r.getLsbD 0 then (r >>> 1) ^^^ 0xEDB88320#32 else r >>> 1
def bitsC : Nat → BitVec 32 → BitVec 32
  | 0, r => r
  | n + 1, r => bitsC n (bitC r)
theorem xor_swap (a b c d : BitVec 32) : (a ^^^ b) ^^^ (c ^^^ d) = (a ^^^ c) ^^^ (b ^^^ d) := by
  rw [BitVec.xor_assoc, ← BitVec.xor_assoc b c d, BitVec.xor_comm b c, BitVec.xor_assoc c b d, ← BitVec.xor_assoc]
theorem shr_xor {n : Nat} (a b : BitVec n) (k : Nat) : (a ^^^ b) >>> k = (a >>> k) ^^^ (b >>> k) := by
  apply BitVec.eq_of_getLsbD_eq; intro i hi; simp
theorem set_xor (a b : BitVec 8) : (a ^^^ b).setWidth 32 = a.setWidth 32 ^^^ b.setWidth 32 := by
  apply BitVec.eq_of_getLsbD_eq; intro i hi; simp [hi]
/-- The n lowest bits. -/
def low_ {m : Nat} (n : Nat) (r : BitVec m) : BitVec m := r &&& (BitVec.allOnes m >>> (m - n))
theorem low_bit {m : Nat} (n : Nat) (hn : n ≤ m) (r : BitVec m) (i : Nat) : (low_ n r).getLsbD i = (r.getLsbD i && decide (i < n)) := by
  unfold low_
  rw [BitVec.getLsbD_and, BitVec.getLsbD_ushiftRight, BitVec.getLsbD_allOnes]
  congr 1
  rw [decide_eq_decide]; omega
theorem low_zero {m : Nat} (r : BitVec m) : low_ 0 r = 0#m := by
  apply BitVec.eq_of_getLsbD_eq; intro i hi; rw [low_bit 0 (by omega)]; simp
theorem low_all {m : Nat} (r : BitVec m) : low_ m r = r := by
  apply BitVec.eq_of_getLsbD_eq; intro i hi; rw [low_bit m (by omega)]; simp [hi]
theorem low_succ {m : Nat} (n : Nat) (hn : n < m) (r : BitVec m) : low_ (n + 1) r = low_ n r ^^^ (if r.getLsbD n then BitVec.twoPow m n else 0#m) := by
  apply BitVec.eq_of_getLsbD_eq
  intro i hi
  rw [low_bit _ (by omega), BitVec.getLsbD_xor, low_bit _ (by omega)]
  by_cases h : i = n
  · subst h
    by_cases hb : r.getLsbD i = true
    · rw [if_pos hb, BitVec.getLsbD_twoPow]; simp [hb, hi]
    · rw [if_neg hb]; simp at hb; simp [hb]
  · have e : (if r.getLsbD n then BitVec.twoPow m n else 0#m).getLsbD i = false := by
      split
      · rw [BitVec.getLsbD_twoPow]; simp; omega
      · simp
    rw [e, Bool.xor_false]
    congr 1
    rw [decide_eq_decide]; omega
/-- Two linear maps that agree on each single bit agree. -/
theorem lin_ext {m k : Nat} (f g : BitVec m → BitVec k) (hf : ∀ a b, f (a ^^^ b) = f a ^^^ f b) (hg : ∀ a b, g (a ^^^ b) = g a ^^^ g b)
    (h : ∀ i : Fin m, f (BitVec.twoPow m i.val) = g (BitVec.twoPow m i.val)) (r : BitVec m) : f r = g r := by
  have f0 : f 0#m = 0#k := by have := hf 0#m 0#m; simpa using this
  have g0 : g 0#m = 0#k := by have := hg 0#m 0#m; simpa using this
  have key : ∀ n, n ≤ m → f (low_ n r) = g (low_ n r) := by
    intro n
    induction n with
    | zero => intro _; rw [low_zero, f0, g0]
    | succ n ih =>
      intro hn
      rw [low_succ n (by omega), hf, hg, ih (by omega)]
      congr 1
      split
      · exact h ⟨n, by omega⟩
      · rw [f0, g0]
  have := key m (Nat.le_refl _)
  rwa [low_all] at this
theorem bitC_xor (r s : BitVec 32) : bitC (r ^^^ s) = bitC r ^^^ bitC s := by
  unfold bitC
  rw [BitVec.getLsbD_xor, shr_xor]
  cases r.getLsbD 0 <;> cases s.getLsbD 0
  · simp
  · simp [BitVec.xor_assoc]
  · simp only [Bool.xor_false, if_true, Bool.false_eq_true, if_false]
    rw [BitVec.xor_assoc, BitVec.xor_comm (s >>> 1), ← BitVec.xor_assoc]
  · simp only [Bool.xor_self, if_true, Bool.false_eq_true, if_false]
    rw [xor_swap, BitVec.xor_self, BitVec.xor_zero]
theorem bitsC_xor (n : Nat) : ∀ r s : BitVec 32, bitsC n (r ^^^ s) = bitsC n r ^^^ bitsC n s := by
  induction n with
  | zero => intro r s; rfl
  | succ n ih => intro r s; show bitsC n (bitC (r ^^^ s)) = _; rw [bitC_xor, ih]; rfl
theorem bitsC_add (a b : Nat) (r : BitVec 32) : bitsC (a + b) r = bitsC b (bitsC a r) := by
  induction a generalizing r with
  | zero => rw [Nat.zero_add]; rfl
  | succ n ih => rw [show n + 1 + b = (n + b) + 1 from by omega]; exact ih (bitC r)
theorem tab1_xor (i j : Nat) (hi : i < 16) (hj : j < 16) : tab1 (i ^^^ j) = tab1 i ^^^ tab1 j := by
  have h : ∀ i j : Fin 16, tab1 (i.val ^^^ j.val) = tab1 i.val ^^^ tab1 j.val := by decide +kernel
  exact h ⟨i, hi⟩ ⟨j, hj⟩
theorem idx_xor (r s : BitVec 32) : idx (r ^^^ s) = idx r ^^^ idx s := by
  unfold idx
  rw [← BitVec.toNat_xor]
  congr 1
  apply BitVec.eq_of_getLsbD_eq; intro i hi; simp only [BitVec.getLsbD_and, BitVec.getLsbD_xor]
  cases (15#32).getLsbD i <;> simp
theorem turnC_xor (r s : BitVec 32) : turnC (r ^^^ s) = turnC r ^^^ turnC s := by
  unfold turnC
  rw [idx_xor, tab1_xor _ _ (idx_lt _) (idx_lt _), shr_xor, xor_swap]
theorem turnC_bits (r : BitVec 32) : turnC r = bitsC 4 r := lin_ext turnC (bitsC 4) turnC_xor (bitsC_xor 4) (by decide +kernel) r
theorem stepC_bits (r : BitVec 32) (x : BitVec 8) : stepC r x = bitsC 8 (r ^^^ x.setWidth 32) := by
  unfold stepC
  rw [turnC_bits, turnC_bits, ← bitsC_add]
theorem stepC_xor (r s : BitVec 32) (x y : BitVec 8) : stepC (r ^^^ s) (x ^^^ y) = stepC r x ^^^ stepC s y := by
  rw [stepC_bits, stepC_bits, stepC_bits, set_xor, xor_swap, bitsC_xor]
def undoC (r : BitVec 32) : BitVec 32 := (r <<< 1) ^^^ (if r.getLsbD 31 then 0xDB710641#32 else 0#32)
theorem shl_xor (a b : BitVec 32) : (a ^^^ b) <<< 1 = (a <<< 1) ^^^ (b <<< 1) := by
  apply BitVec.eq_of_getLsbD_eq; intro i hi; simp only [BitVec.getLsbD_shiftLeft, BitVec.getLsbD_xor]
  cases decide (i < 32) <;> cases decide (i < 1) <;> simp
theorem undoC_xor (r s : BitVec 32) : undoC (r ^^^ s) = undoC r ^^^ undoC s := by
  unfold undoC
  rw [BitVec.getLsbD_xor, shl_xor]
  cases r.getLsbD 31 <;> cases s.getLsbD 31
  · simp
  · simp [BitVec.xor_assoc]
  · simp only [Bool.xor_false, if_true, Bool.false_eq_true, if_false, BitVec.xor_zero]
    rw [BitVec.xor_assoc, BitVec.xor_comm (s <<< 1), ← BitVec.xor_assoc]
  · simp only [Bool.xor_self, if_true, Bool.false_eq_true, if_false]
    rw [xor_swap, BitVec.xor_self]
theorem undo_bit (r : BitVec 32) : undoC (bitC r) = r :=
  lin_ext (fun r => undoC (bitC r)) (fun r => r) (fun a b => by rw [bitC_xor, undoC_xor]) (fun a b => rfl) (by decide +kernel) r
theorem bitsC_inj (n : Nat) : ∀ {r s : BitVec 32}, bitsC n r = bitsC n s → r = s := by
  induction n with
  | zero => intro r s h; exact h
  | succ n ih =>
    intro r s h
    have := ih (show bitsC n (bitC r) = bitsC n (bitC s) from h)
    rw [← undo_bit r, ← undo_bit s, this]
theorem bitsC_zero (n : Nat) : bitsC n 0#32 = 0#32 := by
  have := bitsC_xor n 0#32 0#32
  simpa using this
theorem fold_xor : ∀ (xs ys : List (BitVec 8)) (r s : BitVec 32), xs.length = ys.length →
    (xs.zipWith (· ^^^ ·) ys).foldl stepC (r ^^^ s) = xs.foldl stepC r ^^^ ys.foldl stepC s
  | [], [], r, s, _ => rfl
  | x :: xs, y :: ys, r, s, h => by
    rw [List.zipWith_cons_cons, List.foldl_cons, List.foldl_cons, List.foldl_cons, stepC_xor]
    exact fold_xor xs ys _ _ (by simpa using h)
theorem fold_zeros (n : Nat) : ∀ r : BitVec 32, (List.replicate n 0#8).foldl stepC r = bitsC (8 * n) r := by
  induction n with
  | zero => intro r; rfl
  | succ n ih =>
    intro r
    rw [List.replicate_succ, List.foldl_cons, ih, show stepC r 0#8 = bitsC 8 r from by rw [stepC_bits]; congr 1; simp, ← bitsC_add]
    congr 1; omega
theorem not_xor (a b : BitVec 32) : ~~~ a ^^^ b = ~~~ (a ^^^ b) := by
  apply BitVec.eq_of_getLsbD_eq; intro i hi; simp [hi]
theorem addC_append (s : BitVec 32) (a b : List (BitVec 8)) : addC s (a ++ b) = addC (addC s a) b := by
  unfold addC
  rw [List.foldl_append, BitVec.not_not]
theorem sumC_flat (ls : List (List (BitVec 8))) (s : BitVec 32) : ls.foldl addC s = addC s ls.flatten := by
  induction ls generalizing s with
  | nil => simp [addC]
  | cons a l ih => rw [List.foldl_cons, ih, List.flatten_cons, addC_append]
/-- What three sums tell of that of a difference. -/
theorem addC_xor3 (xs ys : List (BitVec 8)) (h : xs.length = ys.length) :
    addC 0#32 (xs.zipWith (· ^^^ ·) ys) = (addC 0#32 xs ^^^ addC 0#32 ys) ^^^ addC 0#32 (List.replicate xs.length 0#8) := by
  unfold addC
  have h1 := fold_xor (xs.zipWith (· ^^^ ·) ys) (List.replicate xs.length 0#8) (~~~ 0#32 ^^^ ~~~ 0#32) (~~~ 0#32) (by simp; omega)
  have h2 := fold_xor xs ys (~~~ 0#32) (~~~ 0#32) h
  have e : List.zipWith (· ^^^ ·) (xs.zipWith (· ^^^ ·) ys) (List.replicate xs.length 0#8) = xs.zipWith (· ^^^ ·) ys := by
    apply List.ext_getElem
    · simp [h]
    · intro i h1 h2; simp
  rw [e, h2, show ~~~ (0#32 : BitVec 32) ^^^ ~~~ 0#32 ^^^ ~~~ 0#32 = ~~~ 0#32 from by decide +kernel] at h1
  rw [h1]
  generalize List.foldl stepC (~~~0#32) xs = a
  generalize List.foldl stepC (~~~0#32) ys = b
  generalize List.foldl stepC (~~~0#32) (List.replicate xs.length 0#8) = c
  apply BitVec.eq_of_getLsbD_eq; intro i hi; simp [hi]
/-- One bit among zero bytes. -/
def oneB (n q : Nat) : List (BitVec 8) := (List.replicate n 0#8).set (q / 8) (1#8 <<< (q % 8))
theorem oneB_len (n q : Nat) : (oneB n q).length = n := by simp [oneB]
theorem fold_one (n q : Nat) (h : q < 8 * n) : (oneB n q).foldl stepC 0#32 = bitsC (8 * n - q) 1#32 := by
  have e : oneB n q = List.replicate (q / 8) 0#8 ++ (1#8 <<< (q % 8)) :: List.replicate (n - q / 8 - 1) 0#8 := by
    unfold oneB
    apply List.ext_getElem
    · simp; omega
    · intro i h1 h2
      rw [List.getElem_set, List.getElem_append]
      simp only [List.length_replicate, List.getElem_replicate]
      by_cases a : q / 8 = i
      · subst a; simp
      · rw [if_neg a]
        by_cases b : i < q / 8
        · rw [dif_pos b]
        · rw [dif_neg b, List.getElem_cons, dif_neg (by omega)]
          try simp
  rw [e, List.foldl_append, fold_zeros, bitsC_zero, List.foldl_cons, fold_zeros]
  have k : ∀ t : Fin 8, stepC 0#32 (1#8 <<< t.val) = bitsC (8 - t.val) 1#32 := by decide +kernel
  rw [k ⟨q % 8, by omega⟩, ← bitsC_add]
  congr 1
  simp only
  omega
theorem bits32_one : ∀ t : Fin 32, bitsC 32 (BitVec.twoPow 32 t.val) = bitsC (32 - t.val) 1#32 := by decide +kernel
/-- Byte by byte, b with the pattern's first n bits turned at k. -/
def turned (bs : List (BitVec 8)) (p : BitVec 32) (k : Nat) : Nat → List (BitVec 8)
  | 0 => bs
  | n + 1 => if p.getLsbD n then (turned bs p k n).set ((k + n) / 8) ((turned bs p k n).getD ((k + n) / 8) 0 ^^^ 1#8 <<< ((k + n) % 8)) else turned bs p k n
theorem turned_len (bs : List (BitVec 8)) (p : BitVec 32) (k n : Nat) : (turned bs p k n).length = bs.length := by
  induction n with
  | zero => rfl
  | succ n ih => unfold turned; split <;> simp [ih]
theorem set_as_xor (xs : List (BitVec 8)) (q : Nat) (h : q < 8 * xs.length) : xs.set (q / 8) (xs.getD (q / 8) 0 ^^^ 1#8 <<< (q % 8)) = xs.zipWith (· ^^^ ·) (oneB xs.length q) := by
  apply List.ext_getElem
  · simp [oneB]
  · intro i h1 h2
    have hi : i < xs.length := by simpa using h1
    rw [List.getElem_set, List.getElem_zipWith]
    unfold oneB
    rw [List.getElem_set]
    by_cases a : q / 8 = i
    · subst a
      rw [if_pos rfl, if_pos rfl, List.getD_eq_getElem?_getD, List.getElem?_eq_getElem hi]; rfl
    · rw [if_neg a, if_neg a]; simp
theorem fold_turned (bs : List (BitVec 8)) (p : BitVec 32) (k n : Nat) (hn : n ≤ 32) (hk : k + 32 ≤ 8 * bs.length) :
    (turned bs p k n).foldl stepC (~~~ 0#32) = bs.foldl stepC (~~~ 0#32) ^^^ bitsC (8 * bs.length - k - 32) (bitsC 32 (low_ n p)) := by
  induction n with
  | zero => rw [low_zero, bitsC_zero, bitsC_zero, BitVec.xor_zero]; rfl
  | succ n ih =>
    have ih := ih (by omega)
    unfold turned
    rw [low_succ n (by omega)]
    by_cases hb : p.getLsbD n = true
    · rw [if_pos hb, if_pos hb, set_as_xor _ _ (by rw [turned_len]; omega), turned_len]
      have h1 := fold_xor (turned bs p k n) (oneB bs.length (k + n)) (~~~ 0#32) 0#32 (by rw [turned_len, oneB_len])
      rw [BitVec.xor_zero] at h1
      rw [h1, ih, fold_one _ _ (by omega), bitsC_xor, bitsC_xor, BitVec.xor_assoc]
      congr 2
      rw [bits32_one ⟨n, by omega⟩, ← bitsC_add]
      congr 1
      simp only
      omega
    · rw [if_neg hb, if_neg hb, BitVec.xor_zero]
      exact ih
theorem turned_ne (bs : List (BitVec 8)) (p : BitVec 32) (k : Nat) (hk : k + 32 ≤ 8 * bs.length) (hp : p ≠ 0#32) : addC 0#32 (turned bs p k 32) ≠ addC 0#32 bs := by
  intro h
  unfold addC at h
  rw [fold_turned bs p k 32 (Nat.le_refl _) hk, low_all] at h
  have h2 := congrArg (fun x => ~~~ x) h
  simp only [BitVec.not_not] at h2
  generalize List.foldl stepC (~~~0#32) bs = a at h2
  have h3 : bitsC (8 * bs.length - k - 32) (bitsC 32 p) = 0#32 := by
    have := congrArg (fun x => a ^^^ x) h2
    simp only [← BitVec.xor_assoc, BitVec.xor_self, BitVec.zero_xor] at this
    exact this
  rw [← bitsC_zero (8 * bs.length - k - 32)] at h3
  have h4 := bitsC_inj _ h3
  rw [← bitsC_zero 32] at h4
  exact hp (bitsC_inj _ h4)
end Go.Proofs.Ytidaimcndbhefaa
/- Rows of nodes and of roots of one's own. Conditions: lengths. -/
namespace Go.Proofs.Ytidaimcndbhefaa
set_option linter.unusedVariables false
set_option linter.unusedSimpArgs false
open Go.RowKit
theorem addr_at (q k : Nat) : ((⟨q, 0, none⟩ : Addr).add k) = ⟨q, k, none⟩ := by unfold Addr.add; split <;> simp_all
theorem own_sl {A : Option Addr} {n c k : Nat} (h : (Value.slice A n c).ownBlock = some k) : ∃ a, A = some a ∧ a.block = k := by
  cases A with
  | none => cases h
  | some a => exact ⟨a, rfl, by injection h⟩
theorem flat2 {α : Type} (f : α → List Value) (h2 : ∀ x, (f x).length = 2) : ∀ (l : List α) (i j : Nat) (hi : i < l.length), j < 2 → (l.flatMap f)[i * 2 + j]? = (f l[i])[j]?
  | [], i, j, hi, _ => absurd hi (by simp)
  | x :: l, 0, j, hi, hj => by
    rw [List.flatMap_cons, Nat.zero_mul, Nat.zero_add, List.getElem?_append_left (by rw [h2]; exact hj)]
    rfl
  | x :: l, i + 1, j, hi, hj => by
    rw [List.flatMap_cons, List.getElem?_append_right (by rw [h2]; omega), h2, show (i + 1) * 2 + j - 2 = i * 2 + j from by omega]
    exact flat2 f h2 l i j (by simpa using hi) hj
def Nv.cs (x : Nv) : List Value := [x.vp, x.vd]
def Rv.cs (x : Rv) : List Value := [.string x.s, .int .i64 x.t]
theorem own_cell2 {α : Type} {f : α → List Value} (h2 : ∀ x, (f x).length = 2) {W : World} {E : TypeId} {base n c : Nat} {A : Option Addr} {xs : List α} (h : W.ownsRow base E 2 (.slice A n c) xs.length (xs.flatMap f)) (i : Nat) (hi : i < xs.length) : ∃ q, A = some ⟨q, 0, none⟩ ∧ base ≤ q ∧ q < W.heap.size ∧ ∀ j, j < 2 → W.cell? ⟨q, i * 2 + j, none⟩ = (f xs[i])[j]? := by
  rcases h.2 with ⟨e, hn⟩ | ⟨g, cap, cur, e, hb, hh, _, _, hs, ht⟩
  · omega
  · injection e with e1 e2 e3
    refine ⟨g, e1, hb, (Array.getElem?_eq_some_iff.1 hh).1, fun j hj => ?_⟩
    rw [cell_of_row W g _ cur _ _ hh]
    have h4 := flat2 f h2 xs i j hi hj
    rw [← ht, List.getElem?_take_of_lt (by omega)] at h4
    rw [← Array.getElem?_toList, h4]
theorem own_len {W : World} {E : TypeId} {base n m c : Nat} {A : Option Addr} {cs : List Value} (h : W.ownsRow base E 2 (.slice A n c) m cs) : n = m ∧ m ≤ c := by
  rcases h.2 with ⟨e, hn⟩ | ⟨g, cap, cur, e, hb, hh, h1, h2, hs, ht⟩
  · injection e with e1 e2 e3
    omega
  · injection e with e1 e2 e3
    omega
theorem own_form {W : World} {E : TypeId} {base m : Nat} {v : Value} {cs : List Value} (h : W.ownsRow base E 2 v m cs) : ∃ A c, v = .slice A m c := by
  rcases h.2 with ⟨e, hn⟩ | ⟨g, cap, cur, e, _⟩
  · exact ⟨none, 0, by rw [e, hn]⟩
  · exact ⟨_, cap, e⟩
/-- The blocks of nodes' own rows. -/
def blksN (xs : List Nv) : List Nat := xs.flatMap fun x => x.vp.ownBlock.toList ++ x.vd.ownBlock.toList
/-- A row of nodes of one's own, all of it apart. -/
structure NOwn (W : World) (base : Nat) (v : Value) (xs : List Nv) : Prop where
  row : W.ownsRow base 53 2 v xs.length (xs.flatMap Nv.cs)
  each : ∀ x ∈ xs, Ow iV 3 W base x.vp x.ps ∧ Ow b8 5 W base x.vd x.bs
  dist : (v.ownBlock.toList ++ blksN xs).Nodup
def ROwn (W : World) (base : Nat) (v : Value) (xs : List Rv) : Prop := W.ownsRow base 58 2 v xs.length (xs.flatMap Rv.cs)
section
variable {W W' : World} {base : Nat} {v v' : Value}
theorem NOwn.nil (W : World) (base : Nat) : NOwn W base (.slice none 0 0) [] := ⟨⟨by simp, .inl ⟨rfl, rfl⟩⟩, fun x h => (by cases h), (by simp [blksN, Value.ownBlock])⟩
theorem ROwn.nil (W : World) (base : Nat) : ROwn W base (.slice none 0 0) [] := ⟨by simp, .inl ⟨rfl, rfl⟩⟩
theorem ownsRow_below {E : TypeId} {k n : Nat} {cs : List Value} (h : W.ownsRow base E k v n cs) (hb : Below W.heap.size W W') : W'.ownsRow base E k v n cs :=
  World.ownsRow.kept h (row := none) ⟨hb.os, hb.tape, hb.output, hb.size, fun k hk _ => hb.block k hk⟩ (by cases v.ownBlock <;> simp)
theorem NOwn.below {xs : List Nv} (h : NOwn W base v xs) (hb : Below W.heap.size W W') : NOwn W' base v xs := ⟨ownsRow_below h.row hb, fun x hx => ⟨(h.each x hx).1.below hb, (h.each x hx).2.below hb⟩, h.dist⟩
theorem ROwn.below {xs : List Rv} (h : ROwn W base v xs) (hb : Below W.heap.size W W') : ROwn W' base v xs := ownsRow_below h hb
theorem NOwn.at_ {xs : List Nv} (h : NOwn W base v xs) {x : Nv} (hx : x ∈ xs) : x.At W W.heap.size := by
  obtain ⟨h1, h2⟩ := h.each x hx
  obtain ⟨_, _, e1, hc1⟩ := h1.form
  obtain ⟨_, _, e2, hc2⟩ := h2.form
  unfold Nv.vp at e1 h1
  unfold Nv.vd at e2 h2
  injection e1 with _ _ e1
  injection e2 with _ _ e2
  exact ⟨h1.rd, h2.rd, by omega, by omega⟩
theorem NOwn.rows {A : Option Addr} {n c : Nat} {xs : List Nv} (h : NOwn W base (.slice A n c) xs) : NRow W W.heap.size A xs ∧ n = xs.length ∧ xs.length ≤ c := by
  have hl := own_len h.row
  refine ⟨fun i hi => ?_, hl.1, hl.2⟩
  obtain ⟨q, e, hb, hq, hc⟩ := own_cell2 (f := Nv.cs) (fun _ => rfl) h.row i hi
  have e0 := addr_at q (i * 2)
  refine ⟨_, e, hq, ?_, ?_, h.at_ (List.getElem_mem _)⟩
  · rw [e0]; exact hc 0 (by decide)
  · rw [e0]; exact hc 1 (by decide)
theorem ROwn.rows {A : Option Addr} {n c : Nat} {xs : List Rv} (h : ROwn W base (.slice A n c) xs) : RoRow W W.heap.size A xs ∧ n = xs.length ∧ xs.length ≤ c := by
  have hl := own_len h
  refine ⟨fun i hi => ?_, hl.1, hl.2⟩
  obtain ⟨q, e, hb, hq, hc⟩ := own_cell2 (f := Rv.cs) (fun _ => rfl) h i hi
  have e0 := addr_at q (i * 2)
  refine ⟨_, e, hq, ?_, ?_⟩
  · rw [e0]; exact hc 0 (by decide)
  · rw [e0]; exact hc 1 (by decide)
theorem blks_lt {xs : List Nv} (h : NOwn W base v xs) : ∀ k ∈ v.ownBlock.toList ++ blksN xs, k < W.heap.size := by
  intro k hk
  rcases List.mem_append.1 hk with hk | hk
  · exact (World.ownsRow.lt h.row k (by simpa using hk)).2
  · obtain ⟨x, hx, hk⟩ := List.mem_flatMap.1 hk
    rcases List.mem_append.1 hk with hk | hk
    · exact ((h.each x hx).1.lt k (by simpa using hk)).2
    · exact ((h.each x hx).2.lt k (by simpa using hk)).2
theorem blks_ge {xs : List Nv} (h : NOwn W base v xs) : ∀ k ∈ v.ownBlock.toList ++ blksN xs, base ≤ k := by
  intro k hk
  rcases List.mem_append.1 hk with hk | hk
  · exact (World.ownsRow.lt h.row k (by simpa using hk)).1
  · obtain ⟨x, hx, hk⟩ := List.mem_flatMap.1 hk
    rcases List.mem_append.1 hk with hk | hk
    · exact ((h.each x hx).1.lt k (by simpa using hk)).1
    · exact ((h.each x hx).2.lt k (by simpa using hk)).1
/-- Another block is changed. -/
theorem NOwn.grown {xs : List Nv} {q : Nat} (h : NOwn W base v xs) (hg : W.grownBy W' (some q)) (hq : q ∉ v.ownBlock.toList ++ blksN xs) : NOwn W' base v xs := by
  have key : ∀ u : Value, (∀ k, u.ownBlock = some k → k ∈ v.ownBlock.toList ++ blksN xs) → u.ownBlock = none ∨ u.ownBlock ≠ some q := fun u hu => by
    cases e : u.ownBlock with
    | none => exact .inl rfl
    | some k => exact .inr (fun e2 => hq (by injection e2 with e2; exact e2 ▸ hu k e))
  refine ⟨World.ownsRow.kept h.row hg (key _ fun k hk => by simp [hk]), fun y hy => ?_, h.dist⟩
  obtain ⟨g1, g2⟩ := h.each y hy
  exact ⟨g1.kept hg (key _ fun k hk => List.mem_append.2 (.inr (List.mem_flatMap.2 ⟨y, hy, by simp [hk]⟩))), g2.kept hg (key _ fun k hk => List.mem_append.2 (.inr (List.mem_flatMap.2 ⟨y, hy, by simp [hk]⟩)))⟩
theorem NOwn.mono {b2 : Nat} {xs : List Nv} (h : NOwn W base v xs) (hb : b2 ≤ base) : NOwn W b2 v xs := by
  refine ⟨?_, fun x hx => ⟨(h.each x hx).1.mono hb, (h.each x hx).2.mono hb⟩, h.dist⟩
  obtain ⟨h1, h2⟩ := h.row
  refine ⟨h1, ?_⟩
  rcases h2 with h2 | ⟨g, cap, cur, e, hg, r⟩
  · exact .inl h2
  · exact .inr ⟨g, cap, cur, e, Nat.le_trans hb hg, r⟩
theorem ROwn.mono {b2 : Nat} {xs : List Rv} (h : ROwn W base v xs) (hb : b2 ≤ base) : ROwn W b2 v xs := by
  obtain ⟨h1, h2⟩ := h
  refine ⟨h1, ?_⟩
  rcases h2 with h2 | ⟨g, cap, cur, e, hg, r⟩
  · exact .inl h2
  · exact .inr ⟨g, cap, cur, e, Nat.le_trans hb hg, r⟩
theorem blks_app (a b : List Nv) : blksN (a ++ b) = blksN a ++ blksN b := List.flatMap_append
/-- A node more: its rows were made behind S, the row's block is the old one or newer than they. -/
theorem NOwn.snoc {W1 : World} {xs : List Nv} {x : Nv} (h : NOwn W base v xs) (hb1 : Below W.heap.size W W1) (hx : Ow iV 3 W1 base x.vp x.ps ∧ Ow b8 5 W1 base x.vd x.bs)
    (hf : (∀ k, x.vp.ownBlock = some k → W.heap.size ≤ k) ∧ (∀ k, x.vd.ownBlock = some k → W.heap.size ≤ k) ∧ (∀ k, x.vp.ownBlock = some k → x.vd.ownBlock ≠ some k))
    (ho : W'.ownsRow base 53 2 v' (xs.length + 1) (xs.flatMap Nv.cs ++ x.cs)) (hg : W1.grownBy W' v.ownBlock) (hv : v'.ownBlock = v.ownBlock ∨ v'.ownBlock = some W1.heap.size) : NOwn W' base v' (xs ++ [x]) := by
  have hl := blks_lt h
  have hs1 := hb1.size
  have hnd := List.nodup_append.1 h.dist
  have hvn : ∀ k, v.ownBlock = some k → k ∉ blksN xs := fun k e hk => hnd.2.2 k (by simp [e]) k hk rfl
  have hne : ∀ k, k ∈ blksN xs ∨ x.vp.ownBlock = some k ∨ x.vd.ownBlock = some k → v.ownBlock ≠ some k := by
    rintro k (hk | hk | hk) e
    · exact hvn k e hk
    · have h1 := hf.1 k hk
      have h2 := hl k (by simp [e])
      omega
    · have h1 := hf.2.1 k hk
      have h2 := hl k (by simp [e])
      omega
  have key : ∀ u : Value, (∀ k, u.ownBlock = some k → v.ownBlock ≠ some k) → u.ownBlock = none ∨ u.ownBlock ≠ v.ownBlock := fun u hu => by
    cases e : u.ownBlock with
    | none => exact .inl rfl
    | some k => exact .inr (fun e2 => hu k e e2.symm)
  refine ⟨by rw [List.length_append, List.flatMap_append]; simpa using ho, fun y hy => ?_, ?_⟩
  · rcases List.mem_append.1 hy with hy | hy
    · obtain ⟨g1, g2⟩ := h.each y hy
      refine ⟨(g1.below hb1).kept hg (key _ fun k hk => hne k (.inl (List.mem_flatMap.2 ⟨y, hy, by simp [hk]⟩))), (g2.below hb1).kept hg (key _ fun k hk => hne k (.inl (List.mem_flatMap.2 ⟨y, hy, by simp [hk]⟩)))⟩
    · obtain rfl : y = x := by simpa using hy
      exact ⟨hx.1.kept hg (key _ fun k hk => hne k (.inr (.inl hk))), hx.2.kept hg (key _ fun k hk => hne k (.inr (.inr hk)))⟩
  · rw [blks_app]
    have hxl : ∀ k, (x.vp.ownBlock = some k ∨ x.vd.ownBlock = some k) → W.heap.size ≤ k ∧ k < W1.heap.size := by
      rintro k (hk | hk)
      · exact ⟨hf.1 k hk, (hx.1.lt k hk).2⟩
      · exact ⟨hf.2.1 k hk, (hx.2.lt k hk).2⟩
    have hbx : ∀ k, k ∈ blksN [x] ↔ (x.vp.ownBlock = some k ∨ x.vd.ownBlock = some k) := fun k => by simp [blksN]
    have hvb : ∀ k, v'.ownBlock = some k → k ∉ blksN xs ++ blksN [x] := by
      intro k hk hm
      rcases hv with e | e
      · rw [e] at hk
        rcases List.mem_append.1 hm with hm | hm
        · exact hvn k hk hm
        · have h1 := hxl k ((hbx k).1 hm)
          have h2 := hl k (by simp [hk])
          omega
      · rw [e] at hk
        injection hk with hk
        rcases List.mem_append.1 hm with hm | hm
        · have h2 := hl k (by simp [hm])
          omega
        · have h1 := hxl k ((hbx k).1 hm)
          omega
    refine List.nodup_append.2 ⟨by cases v'.ownBlock <;> simp, List.nodup_append.2 ⟨hnd.2.1, ?_, fun a ha b hb e => ?_⟩, fun a ha b hb e => hvb a (by simpa using ha) (e ▸ hb)⟩
    · have e : blksN [x] = x.vp.ownBlock.toList ++ x.vd.ownBlock.toList := by simp [blksN]
      rw [e]
      refine List.nodup_append.2 ⟨by cases x.vp.ownBlock <;> simp, by cases x.vd.ownBlock <;> simp, fun a ha b hb e => ?_⟩
      exact hf.2.2 a (by simpa using ha) (by rw [e]; simpa using hb)
    · have h1 := hxl b ((hbx b).1 hb)
      have h2 := hl a (by simp [ha])
      omega
end
end Go.Proofs.Ytidaimcndbhefaa
/- bytes.Clone, slices.Clone of numbers and of roots. Conditions: lengths. -/
namespace Go.Proofs.Ytidaimcndbhefaa
set_option linter.unusedVariables false
set_option linter.unusedSimpArgs false
open Go.RowKit
/-- A new row that the call made. -/
def NewP {α : Type} (f : α → Value) (E : TypeId) (xs : List α) (w : World) (e : Ending) (w' : World) : Prop := ∃ A c, e = .returned (.slice A xs.length c) ∧ Ow f E w' w.heap.size (.slice A xs.length c) xs ∧ Below w.heap.size w w'
theorem infoN : (Try.prog.info? 53).map (fun i => (i.zero, i.size, i.bytes)) = some (some (.agg #[.slice none 0 0, .slice none 0 0]), 2, 48) := by kernel_rfl
theorem infoR : (Try.prog.info? 58).map (fun i => (i.zero, i.size, i.bytes)) = some (some (.agg #[.string { data := #[] }, .int .i64 0]), 2, 24) := by kernel_rfl
theorem spot_add (a : Addr) (n j : Nat) (h : j ≠ 0) : (⟨(a.add n).block, (a.add n).off + j, none⟩ : Addr) = a.add (n + j) := by
  unfold Addr.add
  by_cases k : n = 0 <;> simp [k, h, Nat.add_assoc]
set_option maxHeartbeats 1000000
set_option maxRecDepth 100000
theorem clone_c (bs : List (BitVec 8)) (A : Option Addr) (c : Nat) (w : World) (hr : Rd b8 w w.heap.size A bs) (hl : bs.length ≤ 1073741824) : Calls Try.prog 33 #[.slice A bs.length c] w (NewP b8 5 bs w) := by
  have hn := fun (a : Option Addr) (n c : Nat) (W : World) => Lib.run_eql_slice_nil (P := Try.prog) W 51 5 a n c 0 0 (by kernel_rfl)
  rcases A with _ | ad
  · have hb : bs = [] := by
      cases bs with
      | nil => rfl
      | cons x xs => obtain ⟨ad, e, _⟩ := hr 0 (by simp); cases e
    subst hb
    go_enter Try.func33, Try.ntmps33
    go_wp2
    go_ret
    exact ⟨none, 0, rfl, Ow.nil_ _ _ _ _, (by repeat (first | with_reducible assumption | with_reducible exact Below.refl _ _ | with_reducible apply bdN | with_reducible apply Below.drew | with_reducible refine Below.alloc ?_ (by simp) _ | with_reducible refine Below.setCell ?_ (by simp) _))⟩
  · go_enter Try.func33, Try.ntmps33
    go_wp2_with (at_builtin; refine wp_app one8 b8_one rfl (.tmp 5) (.tmp 6) rfl w.heap.size _ [] rfl (ow_empty b8 5 w w.heap.size (Nat.le_refl _)) (some ad) bs.length c bs rfl rfl w.heap.size (hr.alloc (Nat.le_refl _) _) (by simp; omega) (by decide) (by simp) ?_; intro v4 w4 ho4 hb4 hg4 hv4)
    rw [List.nil_append] at ho4
    obtain ⟨A4, c4, rfl, hc4⟩ := ho4.form
    go_ret
    exact ⟨A4, c4, rfl, ho4, (Gw.alloc w _).trans hb4⟩
theorem icloneG_c (xs : List Int) (A : Option Addr) (c : Nat) (w : World) (hr : Rd iV w w.heap.size A xs) (hl : xs.length ≤ 1073741824) : Calls Try.prog 39 #[.slice A xs.length c] w (NewP iV 3 xs w) := by
  have hn := fun (a : Option Addr) (n c : Nat) (W : World) => Lib.run_eql_slice_nil (P := Try.prog) W 26 3 a n c 0 0 (by kernel_rfl)
  rcases A with _ | ad
  · have hb : xs = [] := by
      cases xs with
      | nil => rfl
      | cons x xs => obtain ⟨ad, e, _⟩ := hr 0 (by simp); cases e
    subst hb
    go_enter Try.func39, Try.ntmps39
    go_wp2
    go_ret
    exact ⟨none, 0, rfl, Ow.nil_ _ _ _ _, (by repeat (first | with_reducible assumption | with_reducible exact Below.refl _ _ | with_reducible apply bdN | with_reducible apply Below.drew | with_reducible refine Below.alloc ?_ (by simp) _ | with_reducible refine Below.setCell ?_ (by simp) _))⟩
  · go_enter Try.func39, Try.ntmps39
    go_wp2_with (at_builtin; refine wp_app oneI iV_one rfl (.tmp 5) (.tmp 6) rfl w.heap.size _ [] rfl (ow_empty iV 3 w w.heap.size (Nat.le_refl _)) (some ad) xs.length c xs rfl rfl w.heap.size (hr.alloc (Nat.le_refl _) _) (by simp; omega) (by decide) (by simp) ?_; intro v4 w4 ho4 hb4 hg4 hv4)
    rw [List.nil_append] at ho4
    obtain ⟨A4, c4, rfl, hc4⟩ := ho4.form
    go_ret
    exact ⟨A4, c4, rfl, ho4, (Gw.alloc w _).trans hb4⟩
theorem rcs_len (rs : List Rv) : (rs.flatMap Rv.cs).length = rs.length * 2 := by
  induction rs with
  | nil => rfl
  | cons x r ih => rw [List.flatMap_cons, List.length_append, ih]; simp [Rv.cs]; omega
theorem rcs_one (rs : List Rv) : ∀ u ∈ rs.flatMap Rv.cs, u.oneCell' = true := by
  intro u hu
  obtain ⟨x, _, hx⟩ := List.mem_flatMap.1 hu
  simp only [Rv.cs, List.mem_cons, List.not_mem_nil, or_false] at hx
  rcases hx with rfl | rfl <;> rfl
theorem RoRow.news {w : World} {B : Nat} {ad : Addr} {rs : List Rv} (h : RoRow w B (some ad) rs) : ∀ (j : Nat) (u : Value), (rs.flatMap Rv.cs)[j]? = some u → w.cell? (ad.add j) = some u := by
  intro j u hu
  have hj := (List.getElem?_eq_some_iff.1 hu).1
  rw [rcs_len] at hj
  obtain ⟨i, k, hk, rfl⟩ : ∃ i k, k < 2 ∧ j = i * 2 + k := ⟨j / 2, j % 2, by omega, by omega⟩
  have hi : i < rs.length := by omega
  rw [flat2 Rv.cs (fun _ => rfl) rs i k hi hk] at hu
  obtain ⟨ad', e, _, h1, h2⟩ := h i hi
  injection e with e
  subst e
  rcases (show k = 0 ∨ k = 1 by omega) with rfl | rfl
  · rw [Nat.add_zero, h1]; exact hu
  · rw [spot_add _ _ _ (by decide)] at h2
    rw [h2]; exact hu
theorem owns_empty2 (w : World) (E : TypeId) (base : Nat) (hb : base ≤ w.heap.size) : (w.alloc (.cells #[] E)).ownsRow base E 2 (.slice (some ⟨w.heap.size, 0, none⟩) 0 0) 0 [] :=
  World.ownsRow_lit w #[] 0 hb (by simp [maxLen]) rfl
theorem rclone_c (rs : List Rv) (A : Option Addr) (c : Nat) (w : World) (hr : RoRow w w.heap.size A rs) (hl : rs.length ≤ 1000000) : Calls Try.prog 38 #[.slice A rs.length c] w fun e w' => ∃ A2 c2, e = .returned (.slice A2 rs.length c2) ∧ ROwn w' w.heap.size (.slice A2 rs.length c2) rs ∧ Below w.heap.size w w' := by
  have hnl := fun (a : Option Addr) (n c : Nat) (W : World) => Lib.run_eql_slice_nil (P := Try.prog) W 23 58 a n c 0 0 (by kernel_rfl)
  rcases A with _ | ad
  · have hb : rs = [] := by
      cases rs with
      | nil => rfl
      | cons x xs => obtain ⟨ad, e, _⟩ := hr 0 (by simp); cases e
    subst hb
    go_enter Try.func38, Try.ntmps38
    go_wp2
    go_ret
    exact ⟨none, 0, rfl, ROwn.nil _ _, (by repeat (first | with_reducible assumption | with_reducible exact Below.refl _ _ | with_reducible apply bdN | with_reducible apply Below.drew | with_reducible refine Below.alloc ?_ (by simp) _ | with_reducible refine Below.setCell ?_ (by simp) _))⟩
  · obtain ⟨cs, hcs⟩ : ∃ cs, cs = rs.flatMap Rv.cs := ⟨_, rfl⟩
    have hcl := rcs_len rs
    have hc1 := rcs_one rs
    have hcn := (hr.below (Gw.alloc w (.cells #[] 58))).news
    unfold ROwn
    rw [← hcs] at hcl hc1 hcn ⊢
    obtain ⟨n, hn⟩ : ∃ n, n = rs.length := ⟨_, rfl⟩
    rw [← hn] at hcl hl ⊢
    have HC := Lib.hid (And.intro hcl (And.intro hc1 (And.intro hcn hl)))
    have HE := Lib.hid (owns_empty2 w 58 w.heap.size (Nat.le_refl _))
    obtain ⟨i0, hi, hz0, hz1, hz2⟩ := info_parts infoR
    have HI := Lib.hid (And.intro hi (And.intro hz0 (And.intro hz1 hz2)))
    clear hcl hc1 hcn hl hn hi hz0 hz1 hz2 hr hcs
    go_enter Try.func38, Try.ntmps38
    go_wp2_with (at_builtin; refine wp_appR 2 i0 Try.underlying23 HI.out.1 HI.out.2.1 HI.out.2.2.1 HI.out.2.2.2 (by rfl) (by decide) rfl (.tmp 5) (.tmp 6) rfl w.heap.size _ 0 [] rfl HE.out ad n c cs rfl HC.out.1 HC.out.2.2.1 HC.out.2.1 (by have := HC.out.2.2.2; unfold maxLen; omega) (by have := HC.out.2.2.2; omega) (by simp) ?_; intro v1 w1 ho1 hb1 _ _)
    rw [List.nil_append, Nat.zero_add] at ho1
    obtain ⟨A4, c4, rfl⟩ := own_form ho1
    go_ret
    exact ⟨A4, c4, rfl, ho1, (Gw.alloc w _).trans hb1⟩
end Go.Proofs.Ytidaimcndbhefaa
/- slices.Grow of nothing, slices.Concat of two rows, numbered. Conditions: lengths. -/
namespace Go.Proofs.Ytidaimcndbhefaa
set_option linter.unusedVariables false
set_option linter.unusedSimpArgs false
open Go.RowKit
set_option maxHeartbeats 1000000
set_option maxRecDepth 100000
theorem infoI : (Try.prog.info? 3).map (fun i => (i.zero, i.size, i.bytes)) = some (some (.int .i64 0), 1, 8) := by kernel_rfl
theorem grow0_c (w : World) (n : Nat) (hn : n ≤ 10000000) : Calls Try.prog 44 #[.slice none 0 0, .int .i64 n] w fun e w' => ∃ v, e = .returned v ∧ Ow iV 3 w' w.heap.size v [] ∧ Below w.heap.size w w' := by
  by_cases h0 : n = 0
  · subst h0
    go_enter Try.func44, Try.ntmps44
    go_wp2_with fail
    go_ret
    exact ⟨_, rfl, Ow.nil_ _ _ _ _, Below.refl _ _⟩
  · obtain ⟨i, hi, hz, hs, hb⟩ := info_parts infoI
    have hr := fun W : World => Lib.run_append_nil_zeros (P := Try.prog) W 26 3 26 3 i (.int .i64 0) .i64 .i64 Try.underlying26 Try.underlying3 hi hz n (by omega) (by omega) (by omega) (by rw [hb]; omega)
    have hcap := fun W : World => grownCap_ge W n 0 3
    have hcm := fun W : World => grownCap_le_maxLen W n 0 3 (by unfold maxLen; omega)
    have HR := Lib.hid (And.intro hr (And.intro hcap hcm))
    have p1 : (0 : Int) < (n : Int) := by omega
    have p2 : (n : Int) ≤ 10000000 := by omega
    clear hr hcap hcm hi hz hs hb h0 hn
    go_enter Try.func44, Try.ntmps44
    go_wp2_with (at_builtin; refine Lib.wpList_append_run _ rfl _ _ _ _ rfl _ _ rfl rfl _ _ (HR.out.1 _) ?_)
    go_ret
    refine ⟨_, rfl, ⟨rfl, .inr ⟨w.heap.size, grownCap w n 0 3, (Builtin.zeroCells #[.int .i64 0] n ++ Builtin.zeroCells #[.int .i64 0] (grownCap w n 0 3 - n)), rfl, Nat.le_refl _, ?_, Nat.zero_le _, HR.out.2.2 w, ?_, by simp⟩⟩, (by repeat (first | with_reducible assumption | with_reducible exact Below.refl _ _ | with_reducible apply bdN | with_reducible apply Below.drew | with_reducible refine Below.alloc ?_ (by simp) _ | with_reducible refine Below.setCell ?_ (by simp) _))⟩
    · exact heap_alloc_new w _
    · have := HR.out.2.1 w
      simp only [Array.size_append, size_zeroCells]
      simp
      omega
theorem ow_mem {α : Type} {f : α → Value} {E : TypeId} {w : World} {base n c : Nat} {A : Option Addr} {xs : List α} (h : Ow f E w base (.slice A n c) xs) : n = xs.length := by
  obtain ⟨_, _, e, _⟩ := h.form
  injection e
/-- Two rows one behind the other. -/
theorem concat_c (w : World) (b : Nat) (A A2 : Option Addr) (c c2 : Nat) (xs ys : List Int) (hx : Rd iV w w.heap.size A xs) (hy : Rd iV w w.heap.size A2 ys) (hb : Bk w b 26 #[.slice A xs.length c, .slice A2 ys.length c2]) (hl : xs.length ≤ 1000000) (hl2 : ys.length ≤ 1000000) : Calls Try.prog 31 #[.slice (some ⟨b, 0, none⟩) 2 2] w fun e w' => ∃ v, e = .returned v ∧ Ow iV 3 w' w.heap.size v (xs ++ ys) ∧ Below w.heap.size w w' := by
  obtain ⟨N, hN⟩ : ∃ N, N = xs.length := ⟨_, rfl⟩
  obtain ⟨M, hM⟩ : ∃ M, M = ys.length := ⟨_, rfl⟩
  rw [← hN, ← hM] at hb
  have c0 := hb.two.1
  have c1 := hb.two.2
  have hbl := hb.lt
  have q0 : (N : Int) ≤ 1000000 := by omega
  have q1 : (M : Int) ≤ 1000000 := by omega
  have HN := Lib.hid (And.intro hN hM)
  have HX := Lib.hid (And.intro hx hy)
  have HB := Lib.hid hb
  clear hN hM hl hl2 hx hy hb
  go_enter Try.func31, Try.ntmps31
  go_wp2_with fail
  go_loopw [3, 11] (fun s i W => Below w.heap.size w W ∧ ((i = .int .i64 0 ∧ s = .int .i64 0) ∨ (i = .int .i64 1 ∧ s = .int .i64 N) ∨ (i = .int .i64 2 ∧ s = .int .i64 ((N + M : Nat) : Int)))) (fun _ i _ => 2 - (Go.RowKit.intOf i).toNat)
  case atStart => exact ⟨Below.refl _ _, .inl ⟨rfl, rfl⟩⟩
  case round =>
    obtain ⟨hB0, h⟩ := hrel
    have c0 := (hB0.cell (p := ⟨b, 0, none⟩) hbl).trans c0
    have c1 := (hB0.cell (p := ⟨b, 1, none⟩) hbl).trans c1
    rcases h with ⟨rfl, rfl⟩ | ⟨rfl, rfl⟩ | ⟨rfl, rfl⟩
    · have u1 : ¬ ((N : Int) < 0) := by omega
      go_wp2_with fail
      go_roundw
      case rel => exact ⟨hB0, .inr (.inl ⟨rfl, by go_num⟩)⟩
      case measure => simp [Go.RowKit.intOf]
    · have u1 : ¬ ((N : Int) + (M : Int) < 0) := by omega
      have u2 : (0 : Int) ≤ (N : Int) := by omega
      have u3 : (0 : Int) ≤ (M : Int) := by omega
      go_wp2_with fail
      go_roundw
      case rel => exact ⟨hB0, .inr (.inr ⟨rfl, by go_num⟩)⟩
      case measure => simp [Go.RowKit.intOf]
    · have HG := Lib.hid (grow0_c wr (N + M) (by omega))
      go_wp2_with fail
      refine Calls.mono HG.out ?_
      rintro r w1 ⟨v, rfl, ho, b1⟩
      have H1 := Lib.hid (And.intro (ho.mono hB0.size) (hB0.trans (b1.mono hB0.size)))
      clear ho b1 HG c0 c1 hB0
      go_wp2_with fail
      go_loopw [6, 27] (fun t i W => ∃ (k : Nat) (L : List Int), i = .int .i64 k ∧ ((k = 0 ∧ L = []) ∨ (k = 1 ∧ L = xs) ∨ (k = 2 ∧ L = xs ++ ys)) ∧ Ow iV 3 W w.heap.size t L ∧ Below w.heap.size w W) (fun _ i _ => 2 - (Go.RowKit.intOf i).toNat)
      case atStart => exact ⟨0, [], rfl, .inl ⟨rfl, rfl⟩, H1.out⟩
      case round =>
        obtain ⟨k, L, rfl, hk, ho, hB⟩ := hrel
        have d0 := (hB.cell (p := ⟨b, 0, none⟩) hbl).trans (HB.out.cell 0)
        have d1 := (hB.cell (p := ⟨b, 1, none⟩) hbl).trans (HB.out.cell 1)
        have HO := Lib.hid (And.intro ho hB)
        have hr1 := (HX.out.1.below hB).more hB.size
        have hr2 := (HX.out.2.below hB).more hB.size
        have HR1 := Lib.hid hr1
        have HR2 := Lib.hid hr2
        clear hr1 hr2
        rcases hk with ⟨rfl, rfl⟩ | ⟨rfl, rfl⟩ | ⟨rfl, rfl⟩
        · clear ho hB
          go_wp2_with (at_builtin; refine wp_app oneI iV_one rfl (.tmp 31) (.tmp 32) rfl w.heap.size _ [] rfl HO.out.1 A N c xs rfl HN.out.1 _ HR1.out (by have := HN.out.1; simp; omega) (by decide) HO.out.2.size ?_; intro v5 w5 ho5 hb5 hg5 _; have H5 := Lib.hid (And.intro ho5 (HO.out.2.trans hb5)); clear ho5 hb5 hg5)
          go_roundw
          case rel => exact ⟨1, xs, by go_num, .inr (.inl ⟨rfl, rfl⟩), by have := H5.out.1; rw [List.nil_append] at this; exact this, H5.out.2⟩
          case measure => simp [Go.RowKit.intOf]
        · clear ho hB
          go_wp2_with (at_builtin; refine wp_app oneI iV_one rfl (.tmp 31) (.tmp 32) rfl w.heap.size _ L rfl HO.out.1 A2 M c2 ys rfl HN.out.2 _ HR2.out (by have := HN.out.1; have := HN.out.2; omega) (by decide) HO.out.2.size ?_; intro v5 w5 ho5 hb5 hg5 _; have H5 := Lib.hid (And.intro ho5 (HO.out.2.trans hb5)); clear ho5 hb5 hg5)
          go_roundw
          case rel => exact ⟨2, L ++ ys, by go_num, .inr (.inr ⟨rfl, rfl⟩), H5.out.1, H5.out.2⟩
          case measure => simp [Go.RowKit.intOf]
        · clear ho hB
          go_wp2_with fail
          go_ret
          exact ⟨_, rfl, HO.out.1, HO.out.2⟩
end Go.Proofs.Ytidaimcndbhefaa
