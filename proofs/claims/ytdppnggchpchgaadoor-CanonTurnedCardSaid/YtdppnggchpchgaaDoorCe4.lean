/- Texts joined: GtA CaP GtB GuA GuB RegL GuC GtC. -/
import Derived.Test.YtdppnggchpchgaaDoorCe3
import Derived.Test.YtdppnggchpchgaaDoorGrG
import Derived.Test.YtdppnggchpchgaaDoorHeadB
import Derived.Lib.IndexLaws
import Derived.Test.YtdppnggchpchgaaDoorRegT
/- The law's Few. Conditions: what a graph that came in has. -/
namespace Go.Proofs.YtdppnggchpchgaaDoor
set_option linter.unusedVariables false
set_option linter.unusedSimpArgs false
open Go.RowKit
def FewP (g : Gv) : Prop := g.n.length ≤ 60 ∧ g.r.length ≤ 80 ∧ (∀ x ∈ g.n, x.ps.length ≤ 70 ∧ x.bs.length ≤ 1100) ∧ ∀ r ∈ g.r, r.s.size ≤ 40
theorem FewP.small {g : Gv} (h : FewP g) : g.Small := ⟨by have := h.1; omega, by have := h.2.1; omega, fun x hx => by have := h.2.2.1 x hx; omega⟩
def FewQ (g : Gv) (w : World) (e : Ending) (w' : World) : Prop := ∃ b, e = .returned (.bool b) ∧ (b = true → FewP g) ∧ Below w.heap.size w w'
set_option maxHeartbeats 1000000
set_option maxRecDepth 100000
theorem few_c (w : World) (g : Gv) (hg : g.At w w.heap.size) : Calls Tryd.prog 8 #[g.v] w (FewQ g w) := by
  have HG := Lib.hid hg
  obtain ⟨A, ca, A2, ca2, ns, rs⟩ := g
  obtain ⟨N, hN⟩ : ∃ N, N = ns.length := ⟨_, rfl⟩
  obtain ⟨M, hM⟩ : ∃ M, M = rs.length := ⟨_, rfl⟩
  have HN := Lib.hid hN
  have HM := Lib.hid hM
  unfold Gv.v Gv.vn Gv.vr
  simp only
  rw [← hN, ← hM]
  clear hg hN hM
  go_enter Tryd.func8, Tryd.ntmps8
  by_cases hN60 : 60 < N
  · have t1 : (60 : Int) < (N : Int) := by omega
    go_wp2_with fail
    go_ret
    exact ⟨_, rfl, (fun h => nomatch h), (by repeat (first | with_reducible assumption | with_reducible exact Below.refl _ _ | with_reducible apply bdN | with_reducible apply Below.drew | with_reducible refine Below.alloc ?_ (by simp) _ | with_reducible refine Below.setCell ?_ (by simp) _))⟩
  have t1 : ¬ (60 : Int) < (N : Int) := by omega
  by_cases hM80 : 80 < M
  · have t2 : (80 : Int) < (M : Int) := by omega
    go_wp2_with fail
    go_ret
    exact ⟨_, rfl, (fun h => nomatch h), (by repeat (first | with_reducible assumption | with_reducible exact Below.refl _ _ | with_reducible apply bdN | with_reducible apply Below.drew | with_reducible refine Below.alloc ?_ (by simp) _ | with_reducible refine Below.setCell ?_ (by simp) _))⟩
  have t2 : ¬ (80 : Int) < (M : Int) := by omega
  go_wp2_with fail
  have q0 : (N : Int) ≤ 60 := by omega
  have q1 : (M : Int) ≤ 80 := by omega
  clear t1 t2 hN60 hM80
  go_loopw [3] (fun i W => ∃ k : Nat, i = .int .i64 k ∧ k ≤ N ∧ Hid (∀ x ∈ ns.take k, x.ps.length ≤ 70 ∧ x.bs.length ≤ 1100) ∧ Bk W w.heap.size 25 #[.slice A N ca, .slice A2 M ca2] ∧ Below w.heap.size w W) (fun i _ => N - (Go.RowKit.intOf i).toNat)
  case atStart => exact ⟨0, rfl, Nat.zero_le _, Lib.hid (fun x hx => by cases hx), Bk.new _ _ _, (by repeat (first | with_reducible assumption | with_reducible exact Below.refl _ _ | with_reducible apply bdN | with_reducible apply Below.drew | with_reducible refine Below.alloc ?_ (by simp) _ | with_reducible refine Below.setCell ?_ (by simp) _))⟩
  case round =>
    obtain ⟨k, rfl, hk, hck, hb1, hB⟩ := hrel
    have c0 := hb1.two.1
    have hsz := hb1.lt
    have c1 := hb1.two.2
    by_cases hlt : k < N
    · have hkl : k < ns.length := by rw [← HN.out]; exact hlt
      obtain ⟨x, hx⟩ : ∃ x, x = ns[k] := ⟨_, rfl⟩
      obtain ⟨ad, rfl, hc2, hc3, hxa⟩ : ∃ ad, A = some ad ∧ wr.cell? (ad.add (k * 2)) = some x.vp ∧ wr.cell? ⟨(ad.add (k * 2)).block, (ad.add (k * 2)).off + 1, none⟩ = some x.vd ∧ x.At wr wr.heap.size := by
        obtain ⟨ad, e, _, h1, h2, h3⟩ := (HG.out.n.below hB) k hkl
        exact ⟨ad, e, by rw [hx]; exact h1, by rw [hx]; exact h2, by rw [hx]; exact h3.more hB.size⟩
      have HS := Lib.hid (show x.ps.length ≤ 70 → x.bs.length ≤ 1100 → ∀ y ∈ ns.take (k + 1), y.ps.length ≤ 70 ∧ y.bs.length ≤ 1100 from fun h1 h2 y hy => by
        rw [List.take_succ_eq_append_getElem hkl, ← hx] at hy
        rcases List.mem_append.1 hy with hy | hy
        · exact hck.out y hy
        · rw [List.mem_singleton.1 hy]; exact ⟨h1, h2⟩)
      have p1 : (0 : Int) ≤ (k : Int) := by omega
      have p2 : (k : Int) < (N : Int) := by omega
      have HBB := Lib.hid (And.intro hb1 hB)
      clear hx hb1 hB hkl hxa hck
      obtain ⟨xA, xc, xD, xd, xps, xbs⟩ := x
      obtain ⟨xn, hxn⟩ : ∃ n, n = xps.length := ⟨_, rfl⟩
      obtain ⟨xm, hxm⟩ : ∃ n, n = xbs.length := ⟨_, rfl⟩
      unfold Nv.vp at hc2
      unfold Nv.vd at hc3
      simp only at hc2 hc3 HS
      rw [← hxn] at hc2 HS
      rw [← hxm] at hc3 HS
      clear hxn hxm
      by_cases g1 : 70 < xn
      · have t1 : (70 : Int) < (xn : Int) := by omega
        go_wp2_with fail
        go_ret
        exact ⟨_, rfl, (fun h => nomatch h), HBB.out.2⟩
      have t1 : ¬ (70 : Int) < (xn : Int) := by omega
      by_cases g2 : 1100 < xm
      · have t2 : (1100 : Int) < (xm : Int) := by omega
        go_wp2_with fail
        go_ret
        exact ⟨_, rfl, (fun h => nomatch h), HBB.out.2⟩
      have t2 : ¬ (1100 : Int) < (xm : Int) := by omega
      have HX := Lib.hid (HS.out (by omega) (by omega))
      clear HS g1 g2
      go_wp2_with fail
      go_roundw
      case rel => exact ⟨k + 1, by go_num, by omega, HX, HBB.out⟩
      case measure => (first | (simp [Go.RowKit.intOf]; done) | (simp [Go.RowKit.intOf]; omega))
    · have hkN : k = N := by omega
      have HF := Lib.hid (show ∀ x ∈ ns, x.ps.length ≤ 70 ∧ x.bs.length ≤ 1100 from by
        have := hck.out
        rwa [List.take_of_length_le (by rw [← HN.out]; omega)] at this)
      have HB1 := Lib.hid (And.intro hb1 hB)
      clear hkN hck hb1 hB
      go_wp2_with fail
      go_loopw [4] (fun i W => ∃ k : Nat, i = .int .i64 k ∧ k ≤ M ∧ Hid (∀ x ∈ rs.take k, x.s.size ≤ 40) ∧ Bk W w.heap.size 25 #[.slice A N ca, .slice A2 M ca2] ∧ Below w.heap.size w W) (fun i _ => M - (Go.RowKit.intOf i).toNat)
      case atStart => exact ⟨0, rfl, Nat.zero_le _, Lib.hid (fun x hx => by cases hx), HB1.out⟩
      case round =>
        obtain ⟨k, rfl, hk, hck, hb1, hB⟩ := hrel
        have c0 := hb1.two.1
        have hsz := hb1.lt
        have c1 := hb1.two.2
        have HB3 := Lib.hid (And.intro hb1 hB)
        by_cases hlt : k < M
        · have hkl : k < rs.length := by rw [← HM.out]; exact hlt
          obtain ⟨x, hx⟩ : ∃ x, x = rs[k] := ⟨_, rfl⟩
          obtain ⟨ad, rfl, hc2, hc3⟩ : ∃ ad, A2 = some ad ∧ wr.cell? (ad.add (k * 2)) = some (.string x.s) ∧ wr.cell? ⟨(ad.add (k * 2)).block, (ad.add (k * 2)).off + 1, none⟩ = some (.int .i64 x.t) := by
            obtain ⟨ad, e, _, h1, h2⟩ := (HG.out.r.below hB) k hkl
            exact ⟨ad, e, by rw [hx]; exact h1, by rw [hx]; exact h2⟩
          have HS := Lib.hid (show x.s.size ≤ 40 → ∀ y ∈ rs.take (k + 1), y.s.size ≤ 40 from fun h1 y hy => by
            rw [List.take_succ_eq_append_getElem hkl, ← hx] at hy
            rcases List.mem_append.1 hy with hy | hy
            · exact hck.out y hy
            · rw [List.mem_singleton.1 hy]; exact h1)
          have p1 : (0 : Int) ≤ (k : Int) := by omega
          have p2 : (k : Int) < (M : Int) := by omega
          clear hx hb1 hB hkl hck
          by_cases g1 : 40 < x.s.size
          · have t1 : (40 : Int) < (x.s.size : Int) := by omega
            go_wp2_with fail
            go_ret
            exact ⟨_, rfl, (fun h => nomatch h), HB3.out.2⟩
          have t1 : ¬ (40 : Int) < (x.s.size : Int) := by omega
          have HX := Lib.hid (HS.out (by omega))
          clear HS g1
          go_wp2_with fail
          go_roundw
          case rel => exact ⟨k + 1, by go_num, by omega, HX, HB3.out⟩
          case measure => (first | (simp [Go.RowKit.intOf]; done) | (simp [Go.RowKit.intOf]; omega))
        · have hkM : k = M := by omega
          have HE := Lib.hid (show FewP ⟨A, ca, A2, ca2, ns, rs⟩ from by
            refine ⟨by show ns.length ≤ 60; have := HN.out; omega, by show rs.length ≤ 80; have := HM.out; omega, HF.out, ?_⟩
            have := hck.out
            rwa [List.take_of_length_le (by rw [← HM.out]; omega)] at this)
          have HB4 := Lib.hid hB
          clear hkM hck hb1 hB HB3
          go_wp2_with fail
          go_ret
          exact ⟨_, rfl, fun _ => HE.out, HB4.out⟩
end Go.Proofs.YtdppnggchpchgaaDoor
/- Graphs but for their numbers (pure): what is canonical, what a trimmed graph keeps. No conditions. -/
namespace Go.Proofs.YtdppnggchpchgaaDoor
set_option linter.unusedVariables false
set_option linter.unusedSimpArgs false
open Go.RowKit Go.Maps
def canM (g : Gv) : List (List Int × List (BitVec 8)) := pickN g.n (walkL g.n (g.r.map (·.t))) (walkL g.n (g.r.map (·.t)))
def canR (g : Gv) : List Rv := g.r.map fun r => (⟨r.s, newO (walkL g.n (g.r.map (·.t))) r.t⟩ : Rv)
def sameC (a b : Gv) : Bool := sameR (canR a) (canR b) && decide (canM a = canM b)
theorem sameC_true {a b : Gv} (h : canM a = canM b) (h2 : canR a = canR b) : sameC a b = true := by
  unfold sameC
  rw [Bool.and_eq_true, sameR_iff, decide_eq_true_iff]
  exact ⟨h2, h⟩
structure CanOk (g : Gv) : Prop where
  small : g.Small
  rl : g.r.length ≤ 100000
  wp : ∀ x ∈ g.n, ∀ p ∈ x.ps, (Lit.int .i64 p).wf = true
  wr : ∀ r ∈ g.r, (Lit.int .i64 r.t).wf = true
theorem can_small {g c : Gv} (h : g.Small) (h1 : c.n.map Nv.m = canM g) (h2 : c.r = canR g) : c.Small := by
  have hl := congrArg List.length h1
  unfold canM pickN at hl
  rw [List.length_map, List.length_map] at hl
  have hle := walkL_len g.n (g.r.map (·.t))
  refine ⟨by have := h.1; omega, by rw [h2]; unfold canR; rw [List.length_map]; exact h.2.1, fun x hx => ?_⟩
  have hm : x.m ∈ c.n.map Nv.m := List.mem_map.2 ⟨x, hx, rfl⟩
  rw [h1] at hm
  unfold canM pickN at hm
  obtain ⟨p, hp, e⟩ := List.mem_map.1 hm
  unfold pick1 Nv.m at e
  cases ey : g.n[(p - 1).toNat]? with
  | none => rw [ey] at e; injection e with e1 e2; rw [← e1, ← e2]; exact ⟨by simp, by simp⟩
  | some y =>
    rw [ey] at e
    injection e with e1 e2
    have := h.2.2 y (List.mem_of_getElem? ey)
    rw [← e1, ← e2, List.length_map]
    exact this
theorem ptrs_m (ns : List Nv) (p : Int) : ptrsG ns p = ((ns.map Nv.m)[(p - 1).toNat]?.map Prod.fst).getD [] := by
  unfold ptrsG
  rw [List.getElem?_map]
  cases ns[(p - 1).toNat]? <;> rfl
theorem pick1_m (ns : List Nv) (od : List Int) (p : Int) : pick1 ns od p = ((ns.map Nv.m)[(p - 1).toNat]?.map fun x => (x.1.map (newO od), x.2)).getD ([], []) := by
  unfold pick1
  rw [List.getElem?_map]
  cases ns[(p - 1).toNat]? <;> rfl
theorem iter_m {ns ns' : List Nv} (h : ns.map Nv.m = ns'.map Nv.m) (o : List Int) : ∀ i, iterW ns o i = iterW ns' o i
  | 0 => rfl
  | i + 1 => by
    have ih := iter_m h o i
    have hl : ns.length = ns'.length := by have := congrArg List.length h; rwa [List.length_map, List.length_map] at this
    cases e : (iterW ns o i)[i]? with
    | none => rw [iterW_none e, iterW_none (by rw [← ih]; exact e), ih]
    | some p => rw [iterW_some e, iterW_some (p := p) (by rw [← ih]; exact e), ih, ptrs_m, ptrs_m, h, hl]
theorem walk_m {ns ns' : List Nv} (h : ns.map Nv.m = ns'.map Nv.m) (fr : List Int) : walkL ns fr = walkL ns' fr := by
  have hl : ns.length = ns'.length := by have := congrArg List.length h; rwa [List.length_map, List.length_map] at this
  unfold walkL
  rw [hl]
  exact iter_m h _ _
theorem can_m {a b : Gv} (h : a.n.map Nv.m = b.n.map Nv.m) (h2 : a.r = b.r) : canM a = canM b ∧ canR a = canR b := by
  have hw := walk_m h (a.r.map (·.t))
  refine ⟨?_, ?_⟩
  · unfold canM pickN
    rw [hw, h2]
    exact List.map_congr_left fun p _ => by rw [pick1_m, pick1_m, h]
  · unfold canR
    rw [hw, h2]
theorem okP_wf' {N : Nat} {p : Int} (hN : N ≤ 1000000) (h : okP N p = true) : (Lit.int .i64 p).wf = true := by
  have := okP_iff.1 h
  exact wfI (by omega) (by omega)
theorem can_ok {g : Gv} (h0 : ckG g = 0) (hs : g.Small) : CanOk g := by
  obtain ⟨hok, hrt⟩ := ck_ok h0
  obtain ⟨_, z2, _⟩ := ck_zero h0
  exact ⟨hs, by omega, fun x hx p hp => okP_wf' hs.1 (hok x hx p hp), fun r hr => okP_wf' hs.1 (hrt r hr)⟩
end Go.Proofs.YtdppnggchpchgaaDoor
/- The law's Of: the same graph in the other package's types. Conditions: lengths. -/
namespace Go.Proofs.YtdppnggchpchgaaDoor
set_option linter.unusedVariables false
set_option linter.unusedSimpArgs false
open Go.RowKit Go.Maps
theorem infoN7 : (Tryd.prog.info? 49).map (fun i => (i.zero, i.size, i.bytes)) = some (some (.agg #[.slice none 0 0, .slice none 0 0]), 2, 48) := by kernel_rfl
theorem infoR7 : (Tryd.prog.info? 56).map (fun i => (i.zero, i.size, i.bytes)) = some (some (.agg #[.string { data := #[] }, .int .i64 0]), 2, 24) := by kernel_rfl
theorem of_res {tmps : Array Value} {W : World} {g : Nat} {a b : Value} (hb : Bk W g 32 #[a, b]) (h2 : tmps.getD 2 undef = .pointer (some ⟨g, 0, none⟩)) :
    (results Tryd.f10 tmps).run Tryd.prog W = .ok (.agg #[a, b]) W := by
  have hl := run_loadVar_row (P := Tryd.prog) W g 32 32 #[a, b] (0, 0) _ hb Tryd.underlying32 rfl (by kernel_rfl)
  have h2' : tmps[2]?.getD undef = .pointer (some ⟨g, 0, none⟩) := by simpa using h2
  simp [results, Tryd.results10, h2', asAddr, hl]
theorem two_news {W : World} {q : Nat} {E : TypeId} {u0 u1 : Value} (h : Bk W q E #[u0, u1]) : ∀ (i : Nat) (u : Value), [u0, u1][i]? = some u → W.cell? ((⟨q, 0, none⟩ : Addr).add i) = some u := fun i u hu => by
  have hj : i < 2 := by have := (List.getElem?_eq_some_iff.1 hu).1; simpa using this
  rw [addr_at, h.cell]
  rcases (show i = 0 ∨ i = 1 by omega) with rfl | rfl
  · simpa using hu
  · simpa using hu
/-- What Of works on. -/
structure OfS (w W1 W : World) (q f k : Nat) (E : TypeId) (VA : Option Addr) (vc : Nat) (vals : List Value) (cs : Array Value) : Prop where
  row : W.ownsRow W1.heap.size E 2 (.slice VA k vc) k vals
  bk : Bk W q 32 cs
  kp : Kept (fun b => b = q) W1 W
  lt : q < W1.heap.size
theorem nrow_of {W : World} {base n c : Nat} {E : TypeId} {A : Option Addr} {xs : List Nv} (h : W.ownsRow base E 2 (.slice A n c) xs.length (xs.flatMap Nv.cs)) (hx : ∀ x ∈ xs, x.At W W.heap.size) : NRow W W.heap.size A xs := fun i hi => by
  obtain ⟨q, e, hb, hq, hc⟩ := own_cell2 (f := Nv.cs) (fun _ => rfl) h i hi
  have e0 := addr_at q (i * 2)
  refine ⟨_, e, hq, ?_, ?_, hx _ (List.getElem_mem _)⟩
  · rw [e0]; exact hc 0 (by decide)
  · rw [e0]; exact hc 1 (by decide)
theorem rrow_of {W : World} {base n c : Nat} {E : TypeId} {A : Option Addr} {xs : List Rv} (h : W.ownsRow base E 2 (.slice A n c) xs.length (xs.flatMap Rv.cs)) : RoRow W W.heap.size A xs := fun i hi => by
  obtain ⟨q, e, hb, hq, hc⟩ := own_cell2 (f := Rv.cs) (fun _ => rfl) h i hi
  have e0 := addr_at q (i * 2)
  refine ⟨_, e, hq, ?_, ?_⟩
  · rw [e0]; exact hc 0 (by decide)
  · rw [e0]; exact hc 1 (by decide)
theorem row_kept {a b : World} {base n c m : Nat} {E : TypeId} {A : Option Addr} {S : Nat → Prop} {cs : List Value} (hK : Kept S a b) (h : a.ownsRow base E 2 (.slice A n c) m cs) (hS : ∀ k, S k → k < base) : b.ownsRow base E 2 (.slice A n c) m cs := by
  obtain ⟨h1, h2⟩ := h
  refine ⟨h1, ?_⟩
  rcases h2 with h2 | ⟨g, cap, cur, e, hg, hh, r⟩
  · exact .inl h2
  · exact .inr ⟨g, cap, cur, e, hg, (hK.block g (Array.getElem?_eq_some_iff.1 hh).1 (fun hs => by have := hS g hs; omega)).trans hh, r⟩
set_option maxHeartbeats 4000000
set_option maxRecDepth 100000
theorem of_c (w : World) (g : Gv) (hg : g.At w w.heap.size) (hs : FewP g) : Calls Tryd.prog 10 #[g.v] w fun e w' => ∃ g' : Gv, e = .returned g'.v ∧ g'.At w' w'.heap.size ∧ g'.n = g.n ∧ g'.r = g.r ∧ Below w.heap.size w w' := by
  have HG := Lib.hid hg
  obtain ⟨A, ca, A2, ca2, ns, rs⟩ := g
  obtain ⟨N, hN⟩ : ∃ N, N = ns.length := ⟨_, rfl⟩
  obtain ⟨M, hM⟩ : ∃ M, M = rs.length := ⟨_, rfl⟩
  have HN := Lib.hid (And.intro hN hM)
  have q0 : (N : Int) ≤ 60 := by rw [hN]; exact Int.ofNat_le.2 hs.1
  have q1 : (M : Int) ≤ 80 := by rw [hM]; exact Int.ofNat_le.2 hs.2.1
  unfold Gv.v Gv.vn Gv.vr
  simp only
  rw [← hN, ← hM]
  clear hg hs hN hM
  go_enter Tryd.func10, Tryd.ntmps10
  go_wp2_with fail
  obtain ⟨q, hq⟩ : ∃ q, q = w.heap.size + 1 + 1 := ⟨_, rfl⟩
  obtain ⟨W1, hW1⟩ : ∃ W1, W1 = ((w.alloc (.cells #[.slice A N ca, .slice A2 M ca2] 25)).alloc (.cells #[.slice none 0 0, .slice none 0 0] 32)).alloc (.cells #[.slice none 0 0, .slice none 0 0] 32) := ⟨_, rfl⟩
  have HW1 := Lib.hid (show Bk W1 w.heap.size 25 #[.slice A N ca, .slice A2 M ca2] ∧ Bk W1 (w.heap.size + 1) 32 #[.slice none 0 0, .slice none 0 0] ∧ Below w.heap.size w W1 ∧ q = w.heap.size + 2 from by
    rw [hW1]
    have k1 := Bk.new (w.alloc (.cells #[.slice A N ca, .slice A2 M ca2] 25)) 32 #[.slice none 0 0, .slice none 0 0]
    simp only [World.size_alloc] at k1
    exact ⟨((Bk.new w _ _).alloc _).alloc _, k1.alloc _, (Gw.alloc w _).trans (((Gw.alloc _ _).trans ((Gw.alloc _ _).mono (by simp))).mono (by simp)), hq⟩)
  have HX1 := Lib.hid (show Bk W1 q 32 #[.slice none 0 0, .slice none 0 0] from by
    have k1 := Bk.new ((w.alloc (.cells #[.slice A N ca, .slice A2 M ca2] 25)).alloc (.cells #[.slice none 0 0, .slice none 0 0] 32)) 32 #[.slice none 0 0, .slice none 0 0]
    simp only [World.size_alloc] at k1
    rw [hW1, hq]; exact k1)
  rw [← hq, ← hW1]
  clear hq hW1
  go_loopw [4] (fun i W => ∃ (k : Nat) (VA : Option Addr) (vc : Nat), i = .int .i64 k ∧ k ≤ N ∧ OfS w W1 W q 0 k 49 VA vc ((ns.take k).flatMap Nv.cs) #[.slice VA k vc, .slice none 0 0]) (fun i _ => N - (Go.RowKit.intOf i).toNat)
  case atStart => exact ⟨0, none, 0, rfl, Nat.zero_le _, ⟨by simp, .inl ⟨rfl, rfl⟩⟩, HX1.out, Kept.refl _ _, HX1.out.lt⟩
  case round =>
    obtain ⟨k, VA, vc, rfl, hk, hS⟩ := hrel
    have HS := Lib.hid hS
    clear hS
    by_cases hlt : k < N
    · have hkl : k < ns.length := by rw [← HN.out.1]; exact hlt
      obtain ⟨x, hx⟩ : ∃ x, x = ns[k] := ⟨_, rfl⟩
      obtain ⟨ad, rfl, had, hc2, hc3⟩ : ∃ ad, A = some ad ∧ ad.block < w.heap.size ∧ w.cell? (ad.add (k * 2)) = some x.vp ∧ w.cell? ⟨(ad.add (k * 2)).block, (ad.add (k * 2)).off + 1, none⟩ = some x.vd := by
        obtain ⟨ad, e, e2, h1, h2, h3⟩ := HG.out.n k hkl
        exact ⟨ad, e, e2, by rw [hx]; exact h1, by rw [hx]; exact h2⟩
      have HT := Lib.hid (show (ns.take (k + 1)).flatMap Nv.cs = (ns.take k).flatMap Nv.cs ++ [x.vp, x.vd] from by rw [take_snoc ns k hkl, List.flatMap_append, ← hx]; simp [Nv.cs])
      obtain ⟨xA, xc, xD, xd, xps, xbs⟩ := x
      obtain ⟨xn, hxn⟩ : ∃ n, n = xps.length := ⟨_, rfl⟩
      obtain ⟨xm, hxm⟩ : ∃ n, n = xbs.length := ⟨_, rfl⟩
      unfold Nv.vp at hc2
      unfold Nv.vd at hc3
      unfold Nv.vp Nv.vd at HT
      simp only at hc2 hc3 HT
      rw [← hxn] at hc2 HT
      rw [← hxm] at hc3 HT
      clear hxn hxm hx hkl
      have HCK := Lib.hid (fun (W : World) (hK : Kept (fun b => b = q) W1 W) => show W.cell? ⟨w.heap.size, 0, none⟩ = some (.slice (some ad) N ca) ∧ W.cell? (ad.add (k * 2)) = some (.slice xA xn xc) ∧ W.cell? ⟨(ad.add (k * 2)).block, (ad.add (k * 2)).off + 1, none⟩ = some (.slice xD xm xd) from by
        have hb := hK.bk HW1.out.1 (show ¬ (w.heap.size = q) from by have := HW1.out.2.2.2; omega)
        have hw : Below w.heap.size w W := HW1.out.2.2.1.trans (hK.below HW1.out.2.2.1.size (fun c e => by rw [e]; have := HW1.out.2.2.2; omega))
        exact ⟨hb.cell 0, (hw.cell (cell_lt hc2)).trans hc2, (hw.cell (cell_lt hc3)).trans hc3⟩)
      have p1 : (0 : Int) ≤ (k : Int) := by omega
      have p2 : (k : Int) < (N : Int) := by omega
      have hw0 : wr.drew.cell? ⟨q, 0, none⟩ = some (.slice VA k vc) ∧ wr.drew.cell? ⟨w.heap.size, 0, none⟩ = some (.slice (some ad) N ca) ∧ wr.drew.cell? (ad.add (k * 2)) = some (.slice xA xn xc) ∧ wr.drew.cell? ⟨(ad.add (k * 2)).block, (ad.add (k * 2)).off + 1, none⟩ = some (.slice xD xm xd) := ⟨(HS.out.bk.below (Gw.drew wr) HS.out.bk.lt).cell 0, HCK.out _ (HS.out.kp.trans (Kept.of_below (Gw.drew wr) _))⟩
      have hg0 := (HCK.out _ HS.out.kp).1
      clear hc2 hc3 had
      go_wp2_with fail
      clear hg0
      refine region_by_spineU 18 [15, 16, 18] [(0, 14, .pointer (some ⟨q, 0, none⟩)), (1, 15, .slice VA k vc), (2, 16, .pointer (some ⟨w.heap.size, 0, none⟩)), (3, 17, .slice (some ad) N ca), (4, 18, .int .i64 k), (5, 19, .pointer (some (ad.add (k * 2)))), (6, 20, .pointer (some (ad.add (k * 2)))), (7, 21, .slice xA xn xc), (8, 22, .pointer (some ⟨w.heap.size, 0, none⟩)), (9, 23, .slice (some ad) N ca), (10, 24, .int .i64 k), (11, 25, .pointer (some (ad.add (k * 2)))), (12, 26, .pointer (some ⟨(ad.add (k * 2)).block, (ad.add (k * 2)).off + 1, none⟩)), (13, 27, .slice xD xm xd), (14, 28, .agg #[.slice xA xn xc, .slice xD xm xd]), (17, 31, .pointer (some ⟨q, 0, none⟩))]
        (fun W => W.cell? ⟨q, 0, none⟩ = some (.slice VA k vc) ∧ W.cell? ⟨w.heap.size, 0, none⟩ = some (.slice (some ad) N ca) ∧ W.cell? (ad.add (k * 2)) = some (.slice xA xn xc) ∧ W.cell? ⟨(ad.add (k * 2)).block, (ad.add (k * 2)).off + 1, none⟩ = some (.slice xD xm xd)) (by kernel_rfl) (by kernel_rfl) (by kernel_rfl) (by kernel_rfl) (by kernel_rfl) (by kernel_rfl) (by kernel_rfl) hw0 ?_ ?_
      · intro y hy V ρ hV hρ hcst
        obtain ⟨k1, k2, k3, k4⟩ := hV
        have e1 : ρ (.tmp 1) = .pointer (some ⟨w.heap.size, 0, none⟩) := (hρ 1).trans (by kernel_rfl)
        have e3 : ρ (.tmp 3) = .pointer (some ⟨q, 0, none⟩) := (hρ 3).trans (by kernel_rfl)
        have e4 : ρ (.tmp 4) = .int .i64 k := (hρ 4).trans (by kernel_rfl)
        have e14 : ρ (.tmp 14) = .pointer (some ⟨q, 0, none⟩) := (hρ 14).trans (by kernel_rfl)
        have e15 : ρ (.tmp 15) = .slice VA k vc := (hρ 15).trans (by kernel_rfl)
        have e16 : ρ (.tmp 16) = .pointer (some ⟨w.heap.size, 0, none⟩) := (hρ 16).trans (by kernel_rfl)
        have e17 : ρ (.tmp 17) = .slice (some ad) N ca := (hρ 17).trans (by kernel_rfl)
        have e18 : ρ (.tmp 18) = .int .i64 k := (hρ 18).trans (by kernel_rfl)
        have e19 : ρ (.tmp 19) = .pointer (some (ad.add (k * 2))) := (hρ 19).trans (by kernel_rfl)
        have e20 : ρ (.tmp 20) = .pointer (some (ad.add (k * 2))) := (hρ 20).trans (by kernel_rfl)
        have e21 : ρ (.tmp 21) = .slice xA xn xc := (hρ 21).trans (by kernel_rfl)
        have e22 : ρ (.tmp 22) = .pointer (some ⟨w.heap.size, 0, none⟩) := (hρ 22).trans (by kernel_rfl)
        have e23 : ρ (.tmp 23) = .slice (some ad) N ca := (hρ 23).trans (by kernel_rfl)
        have e24 : ρ (.tmp 24) = .int .i64 k := (hρ 24).trans (by kernel_rfl)
        have e25 : ρ (.tmp 25) = .pointer (some (ad.add (k * 2))) := (hρ 25).trans (by kernel_rfl)
        have e26 : ρ (.tmp 26) = .pointer (some ⟨(ad.add (k * 2)).block, (ad.add (k * 2)).off + 1, none⟩) := (hρ 26).trans (by kernel_rfl)
        have e27 : ρ (.tmp 27) = .slice xD xm xd := (hρ 27).trans (by kernel_rfl)
        clear hρ
        simp only [List.mem_cons, List.not_mem_nil, or_false] at hy
        rcases hy with rfl | rfl | rfl | rfl | rfl | rfl | rfl | rfl | rfl | rfl | rfl | rfl | rfl | rfl | rfl | rfl
        all_goals
          refine ⟨_, rfl, ?_⟩
          go_simp
          try rfl
      simp only [putA, putD, Act.put, List.setIfInBounds_toArray, List.set_cons_zero, List.set_cons_succ]
      refine spineU_list rfl rfl rfl ?_
      go_wp2_with fail
      have b3 : Below wr.heap.size wr (wr.drew.alloc (.cells #[.slice xA xn xc, .slice xD xm xd] 49)) := (Gw.drew wr).trans ((Gw.alloc wr.drew _).mono (Gw.drew wr).size)
      have E3 : Bk (wr.drew.alloc (.cells #[.slice xA xn xc, .slice xD xm xd] 49)) wr.heap.size 49 #[.slice xA xn xc, .slice xD xm xd] := Bk.new wr.drew 49 #[.slice xA xn xc, .slice xD xm xd]
      have q3 := HS.out.bk.below b3 HS.out.bk.lt
      have HW3 := Lib.hid (show (wr.drew.alloc (.cells #[.slice xA xn xc, .slice xD xm xd] 49)).cell? ⟨q, 0, none⟩ = some (.slice VA k vc) ∧ (wr.drew.alloc (.cells #[.slice xA xn xc, .slice xD xm xd] 49)).cell? ⟨w.heap.size, 0, none⟩ = some (.slice (some ad) N ca) ∧ (wr.drew.alloc (.cells #[.slice xA xn xc, .slice xD xm xd] 49)).cell? (ad.add (k * 2)) = some (.slice xA xn xc) ∧ (wr.drew.alloc (.cells #[.slice xA xn xc, .slice xD xm xd] 49)).cell? ⟨(ad.add (k * 2)).block, (ad.add (k * 2)).off + 1, none⟩ = some (.slice xD xm xd) from ⟨q3.cell 0, HCK.out _ (HS.out.kp.trans (Kept.of_below b3 _))⟩)
      refine ⟨rfl, (by first | exact HW3.out | exact fun _ => HW3.out), ?_⟩
      refine spineU_list rfl rfl rfl ?_
      obtain ⟨i0, hi, hz0, hz1, hz2⟩ := info_parts infoN7
      have ho3 := ownsRow_below HS.out.row b3
      refine wp_appR 2 i0 Tryd.underlying29 hi hz0 hz1 hz2 (by rfl) (by decide) rfl (.tmp 15) (.tmp 29) rfl W1.heap.size _ k _ rfl ho3 ⟨wr.heap.size, 0, none⟩ 1 1 [.slice xA xn xc, .slice xD xm xd] rfl rfl (two_news E3) (fun u hu => ?_) (by unfold maxLen; omega) (by omega) (Nat.le_trans HS.out.kp.size b3.size) ?_
      · simp only [List.mem_cons, List.not_mem_nil, or_false] at hu
        rcases hu with rfl | rfl <;> rfl
      intro v5 w5 ho5 hb5 hg5 hv5
      obtain ⟨A5, c5, rfl⟩ := own_form ho5
      have hkp : Kept (fun b => b = q) W1 w5 := (HS.out.kp.trans (Kept.of_below b3 _)).bel hb5
      have hq5 := q3.below hb5 HS.out.lt
      have HW5 := Lib.hid (show w5.cell? ⟨q, 0, none⟩ = some (.slice VA k vc) ∧ w5.cell? ⟨w.heap.size, 0, none⟩ = some (.slice (some ad) N ca) ∧ w5.cell? (ad.add (k * 2)) = some (.slice xA xn xc) ∧ w5.cell? ⟨(ad.add (k * 2)).block, (ad.add (k * 2)).off + 1, none⟩ = some (.slice xD xm xd) from ⟨hq5.cell 0, HCK.out _ hkp⟩)
      have F5 := hq5.free 0
      have C5 := hq5.cell 0
      have H5 := Lib.hid (And.intro ho5 (And.intro hkp hq5))
      clear ho3 ho5 hb5 hg5 hv5 hi hz0 hz1 hz2 b3 E3 q3 hkp hq5 hw0
      refine ⟨rfl, (by first | exact HW5.out | exact fun _ => HW5.out), ?_⟩
      refine spineU_list rfl rfl rfl ?_
      go_wp2_with fail
      refine ⟨rfl, trivial, ?_⟩
      unfold SpineU
      have X : ∃ (k' : Nat) (VA' : Option Addr) (vc' : Nat), (Value.int .i64 ((k : Int) + 1)) = .int .i64 k' ∧ k' ≤ N ∧ OfS w W1 (w5.setCell ⟨q, 0, none⟩ (.slice A5 (k + 1) c5)) q 0 k' 49 VA' vc' ((ns.take k').flatMap Nv.cs) #[.slice VA' k' vc', .slice none 0 0] := by
        obtain ⟨h1, h2, h3⟩ := H5.out
        refine ⟨k + 1, A5, c5, by go_num, by omega, ?_, h3.set 0 _, h2.trans (Kept.set w5 q 0 _), HS.out.lt⟩
        rw [HT.out]
        refine World.ownsRow.kept h1 (grown_set w5 ⟨q, 0, none⟩ _) ?_
        cases e : (Value.slice A5 (k + 1) c5).ownBlock with
        | none => exact .inl rfl
        | some c => exact .inr (fun e2 => by injection e2 with e2; have e3 : c = q := e2; have h5 := (World.ownsRow.lt h1 c e).1; have := HS.out.lt; omega)
      clear F5 C5 H5 HS
      go_wp2_with fail
      go_roundw
      case rel => first | exact X | exact ⟨_, _, _, _, _, _, _, _, _, _, _, _, _, _, _, _, _, _, X, rfl⟩
      case measure => simp [Go.RowKit.intOf]; omega
    · have hkN : k = N := by omega
      subst hkN
      have HR := Lib.hid (show wr.ownsRow W1.heap.size 49 2 (.slice VA k vc) ns.length (ns.flatMap Nv.cs) ∧ q < W1.heap.size from by
        have h := HS.out.row
        rw [List.take_of_length_le (by rw [← HN.out.1]; exact Nat.le_refl _)] at h
        rw [← HN.out.1]
        exact ⟨h, HS.out.lt⟩)
      have HW2 := Lib.hid (show Bk wr w.heap.size 25 #[.slice A k ca, .slice A2 M ca2] ∧ Bk wr (w.heap.size + 1) 32 #[.slice none 0 0, .slice none 0 0] ∧ Below w.heap.size w wr ∧ q = w.heap.size + 2 from by
        obtain ⟨h1, h2, h3, h4⟩ := HW1.out
        have hK := HS.out.kp
        exact ⟨hK.bk h1 (by omega), hK.bk h2 (by omega), h3.trans (hK.below h3.size (fun c e => by rw [e]; omega)), h4⟩)
      have HX2 := Lib.hid HS.out.bk
      have e0 := HW2.out.1.two.1
      obtain ⟨B0, hB0⟩ : ∃ B0, B0 = W1.heap.size := ⟨_, rfl⟩
      rw [← hB0] at HR
      clear HS HW1 HX1 hB0
      go_wp2_with fail
      clear e0
      obtain ⟨W1, hW1⟩ : ∃ W1, W1 = wr := ⟨_, rfl⟩
      rw [← hW1] at HR HW2 HX2 ⊢
      have HW1 := Lib.hid HW2.out
      clear HW2 hW1 hlt hk
      obtain ⟨NA, hNA⟩ : ∃ NA, NA = VA := ⟨_, rfl⟩
      obtain ⟨nc, hnc⟩ : ∃ nc, nc = vc := ⟨_, rfl⟩
      rw [← hNA, ← hnc] at HR HX2
      clear hNA hnc
      obtain ⟨N, hNk⟩ : ∃ N, N = k := ⟨_, rfl⟩
      rw [← hNk] at HR HX2 HW1 HN q0 ⊢
      clear hNk
      go_loopw [5] (fun i W => ∃ (k : Nat) (VA : Option Addr) (vc : Nat), i = .int .i64 k ∧ k ≤ M ∧ OfS w W1 W q 1 k 56 VA vc ((rs.take k).flatMap Rv.cs) #[.slice NA N nc, .slice VA k vc]) (fun i _ => M - (Go.RowKit.intOf i).toNat)
      case atStart => exact ⟨0, none, 0, rfl, Nat.zero_le _, ⟨by simp, .inl ⟨rfl, rfl⟩⟩, HX2.out, Kept.refl _ _, HX2.out.lt⟩
      case round =>
        obtain ⟨k, VA, vc, rfl, hk, hS⟩ := hrel
        have HS := Lib.hid hS
        clear hS
        by_cases hlt : k < M
        · have hkl : k < rs.length := by rw [← HN.out.2]; exact hlt
          obtain ⟨x, hx⟩ : ∃ x, x = rs[k] := ⟨_, rfl⟩
          obtain ⟨ad, rfl, had, hc2, hc3⟩ : ∃ ad, A2 = some ad ∧ ad.block < w.heap.size ∧ w.cell? (ad.add (k * 2)) = some (.string x.s) ∧ w.cell? ⟨(ad.add (k * 2)).block, (ad.add (k * 2)).off + 1, none⟩ = some (.int .i64 x.t) := by
            obtain ⟨ad, e, e2, h1, h2⟩ := HG.out.r k hkl
            exact ⟨ad, e, e2, by rw [hx]; exact h1, by rw [hx]; exact h2⟩
          have HT := Lib.hid (show (rs.take (k + 1)).flatMap Rv.cs = (rs.take k).flatMap Rv.cs ++ [.string x.s, .int .i64 x.t] from by rw [take_snoc rs k hkl, List.flatMap_append, ← hx]; simp [Rv.cs])
          obtain ⟨rs2, rt⟩ := x
          simp only at hc2 hc3 HT
          clear hx hkl
          have HCK := Lib.hid (fun (W : World) (hK : Kept (fun b => b = q) W1 W) => show W.cell? ⟨w.heap.size, 1, none⟩ = some (.slice (some ad) M ca2) ∧ W.cell? (ad.add (k * 2)) = some (.string rs2) ∧ W.cell? ⟨(ad.add (k * 2)).block, (ad.add (k * 2)).off + 1, none⟩ = some (.int .i64 rt) from by
            have hb := hK.bk HW1.out.1 (show ¬ (w.heap.size = q) from by have := HW1.out.2.2.2; omega)
            have hw : Below w.heap.size w W := HW1.out.2.2.1.trans (hK.below HW1.out.2.2.1.size (fun c e => by rw [e]; have := HW1.out.2.2.2; omega))
            exact ⟨hb.cell 1, (hw.cell (cell_lt hc2)).trans hc2, (hw.cell (cell_lt hc3)).trans hc3⟩)
          have p1 : (0 : Int) ≤ (k : Int) := by omega
          have p2 : (k : Int) < (M : Int) := by omega
          have hw0 : wr.drew.cell? ⟨q, 1, none⟩ = some (.slice VA k vc) ∧ wr.drew.cell? ⟨w.heap.size, 1, none⟩ = some (.slice (some ad) M ca2) ∧ wr.drew.cell? (ad.add (k * 2)) = some (.string rs2) ∧ wr.drew.cell? ⟨(ad.add (k * 2)).block, (ad.add (k * 2)).off + 1, none⟩ = some (.int .i64 rt) := ⟨(HS.out.bk.below (Gw.drew wr) HS.out.bk.lt).cell 1, HCK.out _ (HS.out.kp.trans (Kept.of_below (Gw.drew wr) _))⟩
          have hg0 := (HCK.out _ HS.out.kp).1
          clear hc2 hc3 had
          go_wp2_with fail
          clear hg0
          refine region_by_spineU 18 [15, 16, 18] [(0, 39, .pointer (some ⟨q, 1, none⟩)), (1, 40, .slice VA k vc), (2, 41, .pointer (some ⟨w.heap.size, 1, none⟩)), (3, 42, .slice (some ad) M ca2), (4, 43, .int .i64 k), (5, 44, .pointer (some (ad.add (k * 2)))), (6, 45, .pointer (some (ad.add (k * 2)))), (7, 46, .string rs2), (8, 47, .pointer (some ⟨w.heap.size, 1, none⟩)), (9, 48, .slice (some ad) M ca2), (10, 49, .int .i64 k), (11, 50, .pointer (some (ad.add (k * 2)))), (12, 51, .pointer (some ⟨(ad.add (k * 2)).block, (ad.add (k * 2)).off + 1, none⟩)), (13, 52, .int .i64 rt), (14, 53, .agg #[.string rs2, .int .i64 rt]), (17, 56, .pointer (some ⟨q, 1, none⟩))]
            (fun W => W.cell? ⟨q, 1, none⟩ = some (.slice VA k vc) ∧ W.cell? ⟨w.heap.size, 1, none⟩ = some (.slice (some ad) M ca2) ∧ W.cell? (ad.add (k * 2)) = some (.string rs2) ∧ W.cell? ⟨(ad.add (k * 2)).block, (ad.add (k * 2)).off + 1, none⟩ = some (.int .i64 rt)) (by kernel_rfl) (by kernel_rfl) (by kernel_rfl) (by kernel_rfl) (by kernel_rfl) (by kernel_rfl) (by kernel_rfl) hw0 ?_ ?_
          · intro y hy V ρ hV hρ hcst
            obtain ⟨k1, k2, k3, k4⟩ := hV
            have e1 : ρ (.tmp 1) = .pointer (some ⟨w.heap.size, 0, none⟩) := (hρ 1).trans (by kernel_rfl)
            have e3 : ρ (.tmp 3) = .pointer (some ⟨q, 0, none⟩) := (hρ 3).trans (by kernel_rfl)
            have e5 : ρ (.tmp 5) = .int .i64 k := (hρ 5).trans (by kernel_rfl)
            have e39 : ρ (.tmp 39) = .pointer (some ⟨q, 1, none⟩) := (hρ 39).trans (by kernel_rfl)
            have e40 : ρ (.tmp 40) = .slice VA k vc := (hρ 40).trans (by kernel_rfl)
            have e41 : ρ (.tmp 41) = .pointer (some ⟨w.heap.size, 1, none⟩) := (hρ 41).trans (by kernel_rfl)
            have e42 : ρ (.tmp 42) = .slice (some ad) M ca2 := (hρ 42).trans (by kernel_rfl)
            have e43 : ρ (.tmp 43) = .int .i64 k := (hρ 43).trans (by kernel_rfl)
            have e44 : ρ (.tmp 44) = .pointer (some (ad.add (k * 2))) := (hρ 44).trans (by kernel_rfl)
            have e45 : ρ (.tmp 45) = .pointer (some (ad.add (k * 2))) := (hρ 45).trans (by kernel_rfl)
            have e46 : ρ (.tmp 46) = .string rs2 := (hρ 46).trans (by kernel_rfl)
            have e47 : ρ (.tmp 47) = .pointer (some ⟨w.heap.size, 1, none⟩) := (hρ 47).trans (by kernel_rfl)
            have e48 : ρ (.tmp 48) = .slice (some ad) M ca2 := (hρ 48).trans (by kernel_rfl)
            have e49 : ρ (.tmp 49) = .int .i64 k := (hρ 49).trans (by kernel_rfl)
            have e50 : ρ (.tmp 50) = .pointer (some (ad.add (k * 2))) := (hρ 50).trans (by kernel_rfl)
            have e51 : ρ (.tmp 51) = .pointer (some ⟨(ad.add (k * 2)).block, (ad.add (k * 2)).off + 1, none⟩) := (hρ 51).trans (by kernel_rfl)
            have e52 : ρ (.tmp 52) = .int .i64 rt := (hρ 52).trans (by kernel_rfl)
            clear hρ
            simp only [List.mem_cons, List.not_mem_nil, or_false] at hy
            rcases hy with rfl | rfl | rfl | rfl | rfl | rfl | rfl | rfl | rfl | rfl | rfl | rfl | rfl | rfl | rfl | rfl
            all_goals
              refine ⟨_, rfl, ?_⟩
              go_simp
              try rfl
          simp only [putA, putD, Act.put, List.setIfInBounds_toArray, List.set_cons_zero, List.set_cons_succ]
          refine spineU_list rfl rfl rfl ?_
          go_wp2_with fail
          have b3 : Below wr.heap.size wr (wr.drew.alloc (.cells #[.string rs2, .int .i64 rt] 56)) := (Gw.drew wr).trans ((Gw.alloc wr.drew _).mono (Gw.drew wr).size)
          have E3 : Bk (wr.drew.alloc (.cells #[.string rs2, .int .i64 rt] 56)) wr.heap.size 56 #[.string rs2, .int .i64 rt] := Bk.new wr.drew 56 #[.string rs2, .int .i64 rt]
          have q3 := HS.out.bk.below b3 HS.out.bk.lt
          have HW3 := Lib.hid (show (wr.drew.alloc (.cells #[.string rs2, .int .i64 rt] 56)).cell? ⟨q, 1, none⟩ = some (.slice VA k vc) ∧ (wr.drew.alloc (.cells #[.string rs2, .int .i64 rt] 56)).cell? ⟨w.heap.size, 1, none⟩ = some (.slice (some ad) M ca2) ∧ (wr.drew.alloc (.cells #[.string rs2, .int .i64 rt] 56)).cell? (ad.add (k * 2)) = some (.string rs2) ∧ (wr.drew.alloc (.cells #[.string rs2, .int .i64 rt] 56)).cell? ⟨(ad.add (k * 2)).block, (ad.add (k * 2)).off + 1, none⟩ = some (.int .i64 rt) from ⟨q3.cell 1, HCK.out _ (HS.out.kp.trans (Kept.of_below b3 _))⟩)
          refine ⟨rfl, (by first | exact HW3.out | exact fun _ => HW3.out), ?_⟩
          refine spineU_list rfl rfl rfl ?_
          obtain ⟨i0, hi, hz0, hz1, hz2⟩ := info_parts infoR7
          have ho3 := ownsRow_below HS.out.row b3
          refine wp_appR 2 i0 Tryd.underlying30 hi hz0 hz1 hz2 (by rfl) (by decide) rfl (.tmp 40) (.tmp 54) rfl W1.heap.size _ k _ rfl ho3 ⟨wr.heap.size, 0, none⟩ 1 1 [.string rs2, .int .i64 rt] rfl rfl (two_news E3) (fun u hu => ?_) (by unfold maxLen; omega) (by omega) (Nat.le_trans HS.out.kp.size b3.size) ?_
          · simp only [List.mem_cons, List.not_mem_nil, or_false] at hu
            rcases hu with rfl | rfl <;> rfl
          intro v5 w5 ho5 hb5 hg5 hv5
          obtain ⟨A5, c5, rfl⟩ := own_form ho5
          have hkp : Kept (fun b => b = q) W1 w5 := (HS.out.kp.trans (Kept.of_below b3 _)).bel hb5
          have hq5 := q3.below hb5 HS.out.lt
          have HW5 := Lib.hid (show w5.cell? ⟨q, 1, none⟩ = some (.slice VA k vc) ∧ w5.cell? ⟨w.heap.size, 1, none⟩ = some (.slice (some ad) M ca2) ∧ w5.cell? (ad.add (k * 2)) = some (.string rs2) ∧ w5.cell? ⟨(ad.add (k * 2)).block, (ad.add (k * 2)).off + 1, none⟩ = some (.int .i64 rt) from ⟨hq5.cell 1, HCK.out _ hkp⟩)
          have F5 := hq5.free 1
          have C5 := hq5.cell 1
          have H5 := Lib.hid (And.intro ho5 (And.intro hkp hq5))
          clear ho3 ho5 hb5 hg5 hv5 hi hz0 hz1 hz2 b3 E3 q3 hkp hq5 hw0
          refine ⟨rfl, (by first | exact HW5.out | exact fun _ => HW5.out), ?_⟩
          refine spineU_list rfl rfl rfl ?_
          go_wp2_with fail
          refine ⟨rfl, trivial, ?_⟩
          unfold SpineU
          have X : ∃ (k' : Nat) (VA' : Option Addr) (vc' : Nat), (Value.int .i64 ((k : Int) + 1)) = .int .i64 k' ∧ k' ≤ M ∧ OfS w W1 (w5.setCell ⟨q, 1, none⟩ (.slice A5 (k + 1) c5)) q 1 k' 56 VA' vc' ((rs.take k').flatMap Rv.cs) #[.slice NA N nc, .slice VA' k' vc'] := by
            obtain ⟨h1, h2, h3⟩ := H5.out
            refine ⟨k + 1, A5, c5, by go_num, by omega, ?_, h3.set 1 _, h2.trans (Kept.set w5 q 1 _), HS.out.lt⟩
            rw [HT.out]
            refine World.ownsRow.kept h1 (grown_set w5 ⟨q, 1, none⟩ _) ?_
            cases e : (Value.slice A5 (k + 1) c5).ownBlock with
            | none => exact .inl rfl
            | some c => exact .inr (fun e2 => by injection e2 with e2; have e3 : c = q := e2; have h5 := (World.ownsRow.lt h1 c e).1; have := HS.out.lt; omega)
          clear F5 C5 H5 HS
          go_wp2_with fail
          go_roundw
          case rel => first | exact X | exact ⟨_, _, _, _, _, _, _, _, _, _, _, _, _, _, _, _, _, _, X, rfl⟩
          case measure => simp [Go.RowKit.intOf]; omega
        · have hkM : k = M := by omega
          subst hkM
          have hK := HS.out.kp
          have HR2 := Lib.hid (show wr.ownsRow W1.heap.size 56 2 (.slice VA k vc) rs.length (rs.flatMap Rv.cs) from by
            have h := HS.out.row
            rw [List.take_of_length_le (by rw [← HN.out.2]; exact Nat.le_refl _)] at h
            rw [← HN.out.2]
            exact h)
          obtain ⟨h1, h2, h3, h4⟩ := HW1.out
          have hrb := hK.bk h2 (show ¬ (w.heap.size + 1 = q) from by omega)
          have hgb := hK.bk h1 (show ¬ (w.heap.size = q) from by omega)
          have hbw : Below w.heap.size w wr := h3.trans (hK.below h3.size (fun c e => by rw [e]; omega))
          have g0 := hgb.two.2
          have d0 := hrb.two.1
          have d1 := hrb.two.2
          have d2 := hrb.free 0
          have d3 := hrb.free 1
          have e0 := HS.out.bk.two.1
          have e1 := HS.out.bk.two.2
          have HF := Lib.hid (And.intro hrb (And.intro hbw (And.intro h4 (show W1.heap.size > w.heap.size + 1 from h2.lt))))
          clear h1 h2 h3 h4 hrb hgb hbw hK
          go_wp2_with fail
          obtain ⟨o1, o2, o3, o4⟩ := HF.out
          have hbz : Bk ((wr.setCell ⟨w.heap.size + 1, 0, none⟩ (.slice NA N nc)).setCell ⟨w.heap.size + 1, 1, none⟩ (.slice VA k vc)) (w.heap.size + 1) 32 #[.slice NA N nc, .slice VA k vc] := by
            have h := (o1.set 0 (.slice NA N nc)).set 1 (.slice VA k vc)
            simpa using h
          refine bodyPost_ret (v := .agg #[.slice NA N nc, .slice VA k vc]) (of_res hbz rfl) rfl ?_
          have hKf : Kept (fun b => b = w.heap.size + 1) wr ((wr.setCell ⟨w.heap.size + 1, 0, none⟩ (.slice NA N nc)).setCell ⟨w.heap.size + 1, 1, none⟩ (.slice VA k vc)) := (Kept.set wr _ 0 _).trans (Kept.set _ _ 1 _)
          have hbf : Below w.heap.size w ((wr.setCell ⟨w.heap.size + 1, 0, none⟩ (.slice NA N nc)).setCell ⟨w.heap.size + 1, 1, none⟩ (.slice VA k vc)) := o2.trans (hKf.below o2.size (fun c e => by rw [e]; omega))
          have r1 := row_kept hKf (row_kept HS.out.kp HR.out.1 (fun c e => by rw [e]; exact HR.out.2)) (fun c e => by rw [e]; have := HR.out.2; omega)
          have r2 := row_kept hKf HR2.out (fun c e => by rw [e]; exact o4)
          refine ⟨⟨NA, nc, VA, vc, ns, rs⟩, ?_, ⟨nrow_of r1 (fun x hx => ?_), rrow_of r2, (own_len r1).2, (own_len r2).2⟩, rfl, rfl, hbf⟩
          · show Ending.returned _ = Ending.returned (Value.agg #[.slice NA ns.length nc, .slice VA rs.length vc])
            rw [← HN.out.1, ← HN.out.2]
          · obtain ⟨i, hi, rfl⟩ := List.mem_iff_getElem.1 hx
            obtain ⟨_, _, _, _, _, h⟩ := HG.out.n i hi
            exact h.up hbf
end Go.Proofs.YtdppnggchpchgaaDoor
/- The reference's Good, Words, Named; Ints. Conditions: lengths. -/
namespace Go.Proofs.YtdppnggchpchgaaDoor
set_option linter.unusedVariables false
set_option linter.unusedSimpArgs false
open Go.RowKit
set_option maxHeartbeats 1000000
set_option maxRecDepth 100000
end Go.Proofs.YtdppnggchpchgaaDoor
/- The reference's Good at any string; Ints at equal rows. No conditions but lengths. -/
namespace Go.Proofs.YtdppnggchpchgaaDoor
set_option linter.unusedVariables false
set_option linter.unusedSimpArgs false
open Go.RowKit
set_option maxHeartbeats 1000000
set_option maxRecDepth 100000
theorem goodS_no {s : ByteArray} {k : Nat} (h : k < s.size) (e : s[k] = 0) : goodS s = false := by
  unfold goodS
  have hk : s.data.toList[k]? = some 0 := by
    rw [List.getElem?_eq_getElem (by simpa using h)]
    congr 1
  have hn : ¬ Lib.indexByte s.data.toList 0 < 0 := fun hlt => by
    have hge := Lib.indexByte_ge s.data.toList 0
    have : Lib.indexByte s.data.toList 0 = -1 := by omega
    exact Lib.indexByte_none this k hk
  simp [hn]
theorem goodS_yes {s : ByteArray} (h1 : 1 ≤ s.size) (h2 : s.size ≤ 32) (h : ∀ k (hk : k < s.size), s[k] ≠ 0) : goodS s = true := by
  unfold goodS
  have hn : Lib.indexByte s.data.toList 0 < 0 := by
    by_cases hc : Lib.indexByte s.data.toList 0 < 0
    · exact hc
    · exfalso
      obtain ⟨o, ho⟩ : ∃ o : Nat, Lib.indexByte s.data.toList 0 = o := ⟨(Lib.indexByte s.data.toList 0).toNat, by omega⟩
      have := (Lib.indexByte_some ho).1
      obtain ⟨ho2, e⟩ := List.getElem?_eq_some_iff.1 this
      have e2 : s.data[o]'(by simpa using ho2) = 0 := by simpa using e
      exact h o (by simpa using ho2) e2
  simp [h1, h2, hn]
theorem rgood_s (s : ByteArray) (w : World) : Calls Tryd.prog 25 #[.string s] w fun e w' => e = .returned (.bool (goodS s)) ∧ w' = w := by
  obtain ⟨r, hr⟩ : ∃ r, r = goodS s := ⟨_, rfl⟩
  rw [← hr]
  by_cases h1 : s.size < 1
  · obtain rfl : r = false := by rw [hr]; unfold goodS; rw [decide_eq_false (by omega)]; rfl
    have q1 : s.size = 0 := by omega
    have q2 : decide ((s.size : Int) < 1) = true := by rw [q1]; rfl
    clear hr h1 q1
    go_enter Tryd.func25, Tryd.ntmps25
    go_wp2_with fail
    go_ret
    exact ⟨rfl, rfl⟩
  · have q1 : decide ((s.size : Int) < 1) = false := by simp; omega
    by_cases h2 : 32 < s.size
    · obtain rfl : r = false := by rw [hr]; unfold goodS; rw [decide_eq_false (p := s.size ≤ 32) (by omega)]; simp
      have q2 : decide ((32 : Int) < (s.size : Int)) = true := by simp; omega
      clear hr h1 h2
      go_enter Tryd.func25, Tryd.ntmps25
      go_wp2_with fail
      go_ret
      exact ⟨rfl, rfl⟩
    · have q2 : decide ((32 : Int) < (s.size : Int)) = false := by simp; omega
      have hb : s.size ≤ 32 := by omega
      have HR := Lib.hid hr
      have H12 := Lib.hid (And.intro h1 h2)
      clear hr h1 h2
      go_enter Tryd.func25, Tryd.ntmps25
      go_wp2_with fail
      go_loop [3] (fun i => ∃ k : Nat, k ≤ s.size ∧ i = .int .i64 k ∧ Hid (∀ j (hj : j < s.size), j < k → s[j] ≠ 0)) (fun i => s.size - (Go.RowKit.intOf i).toNat)
      case atStart => exact ⟨0, Nat.zero_le _, rfl, Lib.hid (fun j _ hj => absurd hj (by omega))⟩
      case round =>
        obtain ⟨k, hk, rfl, hall⟩ := hrel
        by_cases hlt : k < s.size
        · have p1 : (0 : Int) ≤ (k : Int) := by omega
          have p2 : (k : Int) < (s.size : Int) := by omega
          by_cases hz0 : s[k] = 0
          · have e0 : ((s[k].toNat : Int) == 0) = true := by rw [hz0]; decide +kernel
            obtain rfl : r = false := by rw [HR.out]; exact goodS_no hlt hz0
            clear hz0
            go_wp2_with fail
            go_ret
            exact ⟨rfl, rfl⟩
          · have e0 : ((s[k].toNat : Int) == 0) = false := by
              have : ¬ s[k].toNat = 0 := fun e => hz0 (UInt8.toNat_inj.1 e)
              simp; omega
            have HZ0 := Lib.hid hz0
            clear hz0
            go_wp2_with fail
            go_round
            case rel => exact ⟨k + 1, by omega, by go_num, Lib.hid (fun j hjs hj => by
              rcases Nat.lt_or_ge j k with h | h
              · exact hall.out j hjs h
              · obtain rfl : j = k := by omega
                exact HZ0.out)⟩
            case measure => simp [Go.RowKit.intOf]; omega
        · obtain rfl : k = s.size := by omega
          obtain rfl : r = true := by
            rw [HR.out]
            have := H12.out
            exact goodS_yes (by omega) hb (fun j hj => hall.out j hj hj)
          go_wp2_with fail
          go_ret
          exact ⟨rfl, rfl⟩
end Go.Proofs.YtdppnggchpchgaaDoor
/- A region that keeps its order, by a fact for each of its operations. No conditions. -/
namespace Go.Proofs.YtdppnggchpchgaaDoor
set_option linter.unusedVariables false
set_option linter.unusedSimpArgs false
open Go.RowKit
section
variable {P : Program} {ops : Array Oper} {Q : Exit → Act → World → Prop} {G : World → World → Prop} {F : Nat → Value → World → Prop} {a0 : Act} {w0 : World}
end
section
variable {P : Program} {ops : Array Oper} {Q : Exit → Act → World → Prop} {F : Nat → Value → World → Prop} {a0 : Act} {w0 : World}
/-- An operation under a guard that itself was left out. -/
theorem owes_un {i : Nat} (k : Nat) (want : Bool) (hg : (ops[i]?).bind (·.guard) = some (k, want)) (hk : waitsB ops i k = true) (hc : ∀ v w, F k v w → v = undef)
    (hsz : ((dstOf ops k).map fun d => decide (d < a0.tmps.size)) = some true) (hF : ∀ w, F i undef w) : Owes P ops Q (fun w w' => Below w.heap.size w w') F a0 w0 i := by
  cases hi : ops[i]? with
  | none => rw [hi] at hg; cases hg
  | some o =>
    rw [hi] at hg
    intro a w hG hd hs hF' hR
    have hy : yielded ops a.tmps k = none := by
      have h1 := hc _ _ (hF' k hk)
      unfold valAt at h1
      unfold yielded
      cases hkd : dstOf ops k with
      | none => rw [hkd] at hsz; cases hsz
      | some d =>
        rw [hkd] at hsz h1
        have hl : d < a.tmps.size := by rw [hs]; simpa using hsz
        unfold dstOf at hkd
        rw [hkd]
        simp only [Option.bind_some] at h1 ⊢
        rw [Array.getD_eq_getD_getElem?, Array.getElem?_eq_getElem hl] at h1
        rw [Array.getElem?_eq_getElem hl]
        simp only [Option.getD_some] at h1
        rw [h1]
        rfl
    unfold wpOp
    rw [hi]
    have hw : Region.wanted o (yielded ops a.tmps) = false := by
      unfold Region.wanted
      rw [show o.guard = some (k, want) from hg]
      simp only [hy]
      cases want <;> rfl
    simp only [hw, Bool.false_eq_true, if_false]
    exact ⟨undef, by unfold dstOf; rw [hi]; rfl, Below.refl _ _, hF _⟩
end
/-- A region's operations from the k-th on, each of which waits for all that stand ahead of it. -/
def cutOps (k : Nat) (ops : Array Oper) : List Oper := ops.toList.drop k
def fullO (k : Nat) (p : Oper × Nat) : Oper := { p.1 with guard := p.1.guard.map fun g => (g.1 - k, g.2), after := ((List.range p.2).map fun j => ({ on := j, ground := .data } : Edge)).toArray }
def fullOps (k : Nat) (ops : Array Oper) : Array Oper := ((cutOps k ops).zipIdx.map (fullO k)).toArray
def cutB (k : Nat) (ops : Array Oper) : Bool := (cutOps k ops).all fun o => match o.guard with | none => true | some g => decide (k ≤ g.1)
end Go.Proofs.YtdppnggchpchgaaDoor
/- The reference's Check. Conditions: lengths. -/
namespace Go.Proofs.YtdppnggchpchgaaDoor
set_option linter.unusedVariables false
set_option linter.unusedSimpArgs false
open Go.RowKit
set_option maxHeartbeats 4000000
set_option maxRecDepth 100000
theorem leS_empty {s : ByteArray} (h : goodS s = true) : leS s emptyS = false := by
  have hs : 1 ≤ s.size := by
    unfold goodS at h
    simp only [Bool.and_eq_true, decide_eq_true_eq] at h
    exact h.1
  have hl : s.toList.length = s.size := by rw [ByteArray.toList_eq]; simp
  have e0 : emptyS.toList = [] := by rw [ByteArray.toList_eq]; rfl
  unfold leS
  rw [e0]
  cases hc : s.toList with
  | nil => rw [hc] at hl; simp at hl; omega
  | cons a l => rfl
theorem less_tri : ∀ x y : List UInt8, Op.bytesLess y x = !(Op.bytesLess x y || x == y)
  | [], [] => rfl
  | [], b :: y => by simp [Op.bytesLess]
  | a :: x, [] => by simp [Op.bytesLess]
  | a :: x, b :: y => by
    have ih := less_tri x y
    simp only [Op.bytesLess]
    rw [ih]
    rcases Nat.lt_trichotomy a.toNat b.toNat with h | h | h
    · have h1 : a < b := UInt8.lt_iff_toNat_lt.2 h
      have h2 : ¬ b < a := fun e => by have := UInt8.lt_iff_toNat_lt.1 e; omega
      have h3 : ¬ b = a := fun e => by subst e; omega
      have h4 : (b == a) = false := by simpa using h3
      simp [h1, h2, h4]
    · have h1 : a = b := UInt8.toNat_inj.1 h
      subst h1
      have h2 : ¬ a < a := fun e => by have := UInt8.lt_iff_toNat_lt.1 e; omega
      simp [h2]
    · have h1 : b < a := UInt8.lt_iff_toNat_lt.2 h
      have h2 : ¬ a < b := fun e => by have := UInt8.lt_iff_toNat_lt.1 e; omega
      have h3 : ¬ a = b := fun e => by subst e; omega
      have h4 : (a == b) = false := by simpa using h3
      simp [h1, h2, h4, h3]
theorem of_ret17 {P : Program} {f : FuncId} {args : Array Value} {v : Value} {w : World} (h : Calls P f args w fun e w' => e = .returned v ∧ w' = w) : Calls P f args w fun e w2 => ∃ u, e = .returned u ∧ Below w.heap.size w w2 ∧ IsV v u w2 :=
  h.mono fun _ _ h => ⟨_, h.1, by rw [h.2]; exact Below.refl _ _, rfl⟩
def prevS (rs : List Rv) : Nat → ByteArray
  | 0 => emptyS
  | k + 1 => ((rs[k]?).map (·.s)).getD emptyS
theorem rcka_r (Q : Exit → Act → World → Prop) (a0 : Act) (w : World) (bx : Nat) (s : ByteArray) (i : Int) (hs : Hid (∀ W, Below w.heap.size w W → W.cell? ⟨bx, 0, none⟩ = some (.string s))) (hg : goodS s = false) (hsz : a0.tmps.size = 99) (sl8 : a0.tmps.getD 8 undef = .pointer (some ⟨bx, 0, none⟩))
    (fin : ∀ (vals : Nat → Value) (w1 : World), Below w.heap.size w w1 → (IsV (.bool true)) (vals 19) w1 → Q .normal (putD vals [70, 71, 72, 73, 74, 75, 76, 77, 78, 79, 80, 81, 82, 83, 84, 85, 86, 87, 88, 89] 0 a0) w1) :
    (Code.region 19 (regIn Tryd.f9 19) true).wp Tryd.prog Q a0 w := by
  refine region_by (G := fun w w1 => Below w.heap.size w w1) [IsV (.pointer (some ⟨bx, 0, none⟩)),
    IsV (.string s),
    IsV (.bool false),
    IsV (.bool true),
    IsV (.bool true),
    IsV undef,
    IsV undef,
    IsV undef,
    IsV undef,
    IsV undef,
    IsV undef,
    IsV undef,
    IsV undef,
    IsV undef,
    IsV undef,
    IsV undef,
    IsV undef,
    IsV undef,
    IsV undef,
    IsV (.bool true)]
    [70, 71, 72, 73, 74, 75, 76, 77, 78, 79, 80, 81, 82, 83, 84, 85, 86, 87, 88, 89] (by kernel_rfl) (Gw.drew _) Gw.trans (by rw [hsz]; kernel_rfl) (by kernel_rfl) ?_ ?_ ?_
  · intro f hf
    simp only [List.mem_cons, List.not_mem_nil, or_false] at hf
    rcases hf with rfl | rfl | rfl | rfl | rfl | rfl | rfl | rfl | rfl | rfl | rfl | rfl | rfl | rfl | rfl | rfl | rfl | rfl | rfl | rfl <;> intro v a b h g <;> first | exact IsV.mono h
  · refine ⟨?_, ?_, ?_, ?_, ?_, ?_, ?_, ?_, ?_, ?_, ?_, ?_, ?_, ?_, ?_, ?_, ?_, ?_, ?_, ?_, trivial⟩
    · refine owes_v (Go.Op.fieldAddr 56 (Go.Operand.tmp 8) 0) 0 [] (by kernel_rfl) (by kernel_rfl) (by kernel_rfl) rfl fun vals w1 ρ hG hF hρ hcst hfun => ?_
      have e8 : ρ (.tmp 8) = .pointer (some ⟨bx, 0, none⟩) := ((hρ 8).trans (slotO [] (by kernel_rfl))).trans sl8
      clear hρ hF hcst hfun sl8 fin
      exact opv_val (by go_simp <;> rfl) ⟨gw_self _, rfl⟩
    · refine owes_v (Go.Op.load 9 (Go.Operand.tmp 70)) 9 [0] (by kernel_rfl) (by kernel_rfl) (by kernel_rfl) rfl fun vals w1 ρ hG hF hρ hcst hfun => ?_
      have e70 : ρ (.tmp 70) = .pointer (some ⟨bx, 0, none⟩) := ((hρ 70).trans (slotJ [0] (by rw [hsz]; decide) (by kernel_rfl))).trans (hF 0 (by decide))
      have k := hs.out w1 hG
      clear hρ hF hcst hfun sl8 fin
      exact opv_val (by go_simp <;> rfl) ⟨gw_self _, rfl⟩
    · refine owes_v (Go.Op.call { callee := Go.Callee.value (Go.Operand.func 25), args := #[Go.Operand.tmp 71], argTypes := #[9] }) 4 [1] (by kernel_rfl) (by kernel_rfl) (by kernel_rfl) rfl fun vals w1 ρ hG hF hρ hcst hfun => ?_
      have e71 : ρ (.tmp 71) = .string s := ((hρ 71).trans (slotJ [1] (by rw [hsz]; decide) (by kernel_rfl))).trans (hF 1 (by decide))
      clear hρ hF hcst sl8 fin
      exact opv_enter (by go_simp <;> rfl) (of_ret17 (hg ▸ rgood_s s w1))
    · refine owes_v (Go.Op.unOp Go.UnOp.not 4 (Go.Operand.tmp 72)) 4 [2] (by kernel_rfl) (by kernel_rfl) (by kernel_rfl) rfl fun vals w1 ρ hG hF hρ hcst hfun => ?_
      have e72 : ρ (.tmp 72) = .bool false := ((hρ 72).trans (slotJ [2] (by rw [hsz]; decide) (by kernel_rfl))).trans (hF 2 (by decide))
      clear hρ hF hcst hfun sl8 fin
      exact opv_val (by go_simp <;> rfl) ⟨gw_self _, rfl⟩
    · exact owes_mvj 3 73 (by kernel_rfl) (by kernel_rfl) (by kernel_rfl) (by kernel_rfl) (by rw [hsz]; decide) (fun v w h => h)
    · exact owes_no 4 true false (by decide) (by kernel_rfl) (by kernel_rfl) (fun _ _ h => h) (by rw [hsz]; kernel_rfl) (fun _ => rfl)
    · exact owes_no 4 true false (by decide) (by kernel_rfl) (by kernel_rfl) (fun _ _ h => h) (by rw [hsz]; kernel_rfl) (fun _ => rfl)
    · exact owes_no 4 true false (by decide) (by kernel_rfl) (by kernel_rfl) (fun _ _ h => h) (by rw [hsz]; kernel_rfl) (fun _ => rfl)
    · exact owes_un 7 true (by kernel_rfl) (by kernel_rfl) (fun _ _ h => h) (by rw [hsz]; kernel_rfl) (fun _ => rfl)
    · exact owes_un 7 true (by kernel_rfl) (by kernel_rfl) (fun _ _ h => h) (by rw [hsz]; kernel_rfl) (fun _ => rfl)
    · exact owes_un 7 true (by kernel_rfl) (by kernel_rfl) (fun _ _ h => h) (by rw [hsz]; kernel_rfl) (fun _ => rfl)
    · exact owes_un 7 true (by kernel_rfl) (by kernel_rfl) (fun _ _ h => h) (by rw [hsz]; kernel_rfl) (fun _ => rfl)
    · exact owes_un 7 true (by kernel_rfl) (by kernel_rfl) (fun _ _ h => h) (by rw [hsz]; kernel_rfl) (fun _ => rfl)
    · exact owes_un 7 true (by kernel_rfl) (by kernel_rfl) (fun _ _ h => h) (by rw [hsz]; kernel_rfl) (fun _ => rfl)
    · exact owes_un 7 true (by kernel_rfl) (by kernel_rfl) (fun _ _ h => h) (by rw [hsz]; kernel_rfl) (fun _ => rfl)
    · exact owes_un 7 true (by kernel_rfl) (by kernel_rfl) (fun _ _ h => h) (by rw [hsz]; kernel_rfl) (fun _ => rfl)
    · exact owes_un 7 true (by kernel_rfl) (by kernel_rfl) (fun _ _ h => h) (by rw [hsz]; kernel_rfl) (fun _ => rfl)
    · exact owes_un 7 true (by kernel_rfl) (by kernel_rfl) (fun _ _ h => h) (by rw [hsz]; kernel_rfl) (fun _ => rfl)
    · exact owes_no 4 true false (by decide) (by kernel_rfl) (by kernel_rfl) (fun _ _ h => h) (by rw [hsz]; kernel_rfl) (fun _ => rfl)
    · refine owes_v (Go.Op.pick (Go.Operand.tmp 74) (Go.Operand.const (Go.Value.bool true)) (Go.Operand.tmp 88)) 4 [4, 18] (by kernel_rfl) (by kernel_rfl) (by kernel_rfl) rfl fun vals w1 ρ hG hF hρ hcst hfun => ?_
      have e74 : ρ (.tmp 74) = .bool true := ((hρ 74).trans (slotJ [4, 18] (by rw [hsz]; decide) (by kernel_rfl))).trans (hF 4 (by decide))
      have e88 : ρ (.tmp 88) = undef := ((hρ 88).trans (slotJ [4, 18] (by rw [hsz]; decide) (by kernel_rfl))).trans (hF 18 (by decide))
      clear hρ hF hfun sl8 fin
      exact opv_val (by go_simp <;> rfl) ⟨gw_self _, rfl⟩
  · intro vals w1 hG hF
    exact fin vals w1 hG (hF 19 (by decide +kernel))
theorem rckb_r (Q : Exit → Act → World → Prop) (a0 : Act) (w : World) (bx : Nat) (s : ByteArray) (hs : Hid (∀ W, Below w.heap.size w W → W.cell? ⟨bx, 0, none⟩ = some (.string s))) (hg : goodS s = true) (hsz : a0.tmps.size = 99) (sl7 : a0.tmps.getD 7 undef = .int .i64 0) (sl8 : a0.tmps.getD 8 undef = .pointer (some ⟨bx, 0, none⟩))
    (fin : ∀ (vals : Nat → Value) (w1 : World), Below w.heap.size w w1 → (IsV (.bool false)) (vals 19) w1 → Q .normal (putD vals [70, 71, 72, 73, 74, 75, 76, 77, 78, 79, 80, 81, 82, 83, 84, 85, 86, 87, 88, 89] 0 a0) w1) :
    (Code.region 19 (regIn Tryd.f9 19) true).wp Tryd.prog Q a0 w := by
  refine region_by (G := fun w w1 => Below w.heap.size w w1) [IsV (.pointer (some ⟨bx, 0, none⟩)),
    IsV (.string s),
    IsV (.bool true),
    IsV (.bool false),
    IsV (.bool false),
    IsV (.int .i64 0),
    IsV (.bool false),
    IsV (.bool false),
    IsV undef,
    IsV undef,
    IsV undef,
    IsV undef,
    IsV undef,
    IsV undef,
    IsV undef,
    IsV undef,
    IsV undef,
    IsV undef,
    IsV (.bool false),
    IsV (.bool false)]
    [70, 71, 72, 73, 74, 75, 76, 77, 78, 79, 80, 81, 82, 83, 84, 85, 86, 87, 88, 89] (by kernel_rfl) (Gw.drew _) Gw.trans (by rw [hsz]; kernel_rfl) (by kernel_rfl) ?_ ?_ ?_
  · intro f hf
    simp only [List.mem_cons, List.not_mem_nil, or_false] at hf
    rcases hf with rfl | rfl | rfl | rfl | rfl | rfl | rfl | rfl | rfl | rfl | rfl | rfl | rfl | rfl | rfl | rfl | rfl | rfl | rfl | rfl <;> intro v a b h g <;> first | exact IsV.mono h
  · refine ⟨?_, ?_, ?_, ?_, ?_, ?_, ?_, ?_, ?_, ?_, ?_, ?_, ?_, ?_, ?_, ?_, ?_, ?_, ?_, ?_, trivial⟩
    · refine owes_v (Go.Op.fieldAddr 56 (Go.Operand.tmp 8) 0) 0 [] (by kernel_rfl) (by kernel_rfl) (by kernel_rfl) rfl fun vals w1 ρ hG hF hρ hcst hfun => ?_
      have e8 : ρ (.tmp 8) = .pointer (some ⟨bx, 0, none⟩) := ((hρ 8).trans (slotO [] (by kernel_rfl))).trans sl8
      clear hρ hF hcst hfun sl7 sl8 fin
      exact opv_val (by go_simp <;> rfl) ⟨gw_self _, rfl⟩
    · refine owes_v (Go.Op.load 9 (Go.Operand.tmp 70)) 9 [0] (by kernel_rfl) (by kernel_rfl) (by kernel_rfl) rfl fun vals w1 ρ hG hF hρ hcst hfun => ?_
      have e70 : ρ (.tmp 70) = .pointer (some ⟨bx, 0, none⟩) := ((hρ 70).trans (slotJ [0] (by rw [hsz]; decide) (by kernel_rfl))).trans (hF 0 (by decide))
      have k := hs.out w1 hG
      clear hρ hF hcst hfun sl7 sl8 fin
      exact opv_val (by go_simp <;> rfl) ⟨gw_self _, rfl⟩
    · refine owes_v (Go.Op.call { callee := Go.Callee.value (Go.Operand.func 25), args := #[Go.Operand.tmp 71], argTypes := #[9] }) 4 [1] (by kernel_rfl) (by kernel_rfl) (by kernel_rfl) rfl fun vals w1 ρ hG hF hρ hcst hfun => ?_
      have e71 : ρ (.tmp 71) = .string s := ((hρ 71).trans (slotJ [1] (by rw [hsz]; decide) (by kernel_rfl))).trans (hF 1 (by decide))
      clear hρ hF hcst sl7 sl8 fin
      exact opv_enter (by go_simp <;> rfl) (of_ret17 (hg ▸ rgood_s s w1))
    · refine owes_v (Go.Op.unOp Go.UnOp.not 4 (Go.Operand.tmp 72)) 4 [2] (by kernel_rfl) (by kernel_rfl) (by kernel_rfl) rfl fun vals w1 ρ hG hF hρ hcst hfun => ?_
      have e72 : ρ (.tmp 72) = .bool true := ((hρ 72).trans (slotJ [2] (by rw [hsz]; decide) (by kernel_rfl))).trans (hF 2 (by decide))
      clear hρ hF hcst hfun sl7 sl8 fin
      exact opv_val (by go_simp <;> rfl) ⟨gw_self _, rfl⟩
    · exact owes_mvj 3 73 (by kernel_rfl) (by kernel_rfl) (by kernel_rfl) (by kernel_rfl) (by rw [hsz]; decide) (fun v w h => h)
    · refine owes_vt 4 false (Go.Op.move (Go.Operand.tmp 7)) 3 [] (by kernel_rfl) (by kernel_rfl) (by kernel_rfl) (fun _ _ h => h) (by rw [hsz]; kernel_rfl) (by kernel_rfl) rfl fun vals w1 ρ hG hF hρ hcst hfun => ?_
      have e7 : ρ (.tmp 7) = .int .i64 0 := ((hρ 7).trans (slotO [] (by kernel_rfl))).trans sl7
      clear hρ hF hcst hfun sl7 sl8 fin
      exact opv_val (by go_simp <;> rfl) ⟨gw_self _, rfl⟩
    · refine owes_vt 4 false (Go.Op.binOp Go.BinOp.gtr 3 (Go.Operand.tmp 75) (Go.Operand.const (Go.Value.int Go.IntKind.i64 0)) 3) 4 [5] (by kernel_rfl) (by kernel_rfl) (by kernel_rfl) (fun _ _ h => h) (by rw [hsz]; kernel_rfl) (by kernel_rfl) rfl fun vals w1 ρ hG hF hρ hcst hfun => ?_
      have e75 : ρ (.tmp 75) = .int .i64 0 := ((hρ 75).trans (slotJ [5] (by rw [hsz]; decide) (by kernel_rfl))).trans (hF 5 (by decide))
      clear hρ hF hfun sl7 sl8 fin
      exact opv_val (by go_simp <;> rfl) ⟨gw_self _, rfl⟩
    · refine owes_vt 4 false (Go.Op.move (Go.Operand.tmp 76)) 4 [6] (by kernel_rfl) (by kernel_rfl) (by kernel_rfl) (fun _ _ h => h) (by rw [hsz]; kernel_rfl) (by kernel_rfl) rfl fun vals w1 ρ hG hF hρ hcst hfun => ?_
      have e76 : ρ (.tmp 76) = .bool false := ((hρ 76).trans (slotJ [6] (by rw [hsz]; decide) (by kernel_rfl))).trans (hF 6 (by decide))
      clear hρ hF hcst hfun sl7 sl8 fin
      exact opv_val (by go_simp <;> rfl) ⟨gw_self _, rfl⟩
    · exact owes_no 7 false true (by decide) (by kernel_rfl) (by kernel_rfl) (fun _ _ h => h) (by rw [hsz]; kernel_rfl) (fun _ => rfl)
    · exact owes_no 7 false true (by decide) (by kernel_rfl) (by kernel_rfl) (fun _ _ h => h) (by rw [hsz]; kernel_rfl) (fun _ => rfl)
    · exact owes_no 7 false true (by decide) (by kernel_rfl) (by kernel_rfl) (fun _ _ h => h) (by rw [hsz]; kernel_rfl) (fun _ => rfl)
    · exact owes_no 7 false true (by decide) (by kernel_rfl) (by kernel_rfl) (fun _ _ h => h) (by rw [hsz]; kernel_rfl) (fun _ => rfl)
    · exact owes_no 7 false true (by decide) (by kernel_rfl) (by kernel_rfl) (fun _ _ h => h) (by rw [hsz]; kernel_rfl) (fun _ => rfl)
    · exact owes_no 7 false true (by decide) (by kernel_rfl) (by kernel_rfl) (fun _ _ h => h) (by rw [hsz]; kernel_rfl) (fun _ => rfl)
    · exact owes_no 7 false true (by decide) (by kernel_rfl) (by kernel_rfl) (fun _ _ h => h) (by rw [hsz]; kernel_rfl) (fun _ => rfl)
    · exact owes_no 7 false true (by decide) (by kernel_rfl) (by kernel_rfl) (fun _ _ h => h) (by rw [hsz]; kernel_rfl) (fun _ => rfl)
    · exact owes_no 7 false true (by decide) (by kernel_rfl) (by kernel_rfl) (fun _ _ h => h) (by rw [hsz]; kernel_rfl) (fun _ => rfl)
    · exact owes_no 7 false true (by decide) (by kernel_rfl) (by kernel_rfl) (fun _ _ h => h) (by rw [hsz]; kernel_rfl) (fun _ => rfl)
    · refine owes_vt 4 false (Go.Op.pick (Go.Operand.tmp 77) (Go.Operand.tmp 87) (Go.Operand.const (Go.Value.bool false))) 4 [7, 17] (by kernel_rfl) (by kernel_rfl) (by kernel_rfl) (fun _ _ h => h) (by rw [hsz]; kernel_rfl) (by kernel_rfl) rfl fun vals w1 ρ hG hF hρ hcst hfun => ?_
      have e77 : ρ (.tmp 77) = .bool false := ((hρ 77).trans (slotJ [7, 17] (by rw [hsz]; decide) (by kernel_rfl))).trans (hF 7 (by decide))
      have e87 : ρ (.tmp 87) = undef := ((hρ 87).trans (slotJ [7, 17] (by rw [hsz]; decide) (by kernel_rfl))).trans (hF 17 (by decide))
      clear hρ hF hfun sl7 sl8 fin
      exact opv_val (by go_simp <;> rfl) ⟨gw_self _, rfl⟩
    · refine owes_v (Go.Op.pick (Go.Operand.tmp 74) (Go.Operand.const (Go.Value.bool true)) (Go.Operand.tmp 88)) 4 [4, 18] (by kernel_rfl) (by kernel_rfl) (by kernel_rfl) rfl fun vals w1 ρ hG hF hρ hcst hfun => ?_
      have e74 : ρ (.tmp 74) = .bool false := ((hρ 74).trans (slotJ [4, 18] (by rw [hsz]; decide) (by kernel_rfl))).trans (hF 4 (by decide))
      have e88 : ρ (.tmp 88) = .bool false := ((hρ 88).trans (slotJ [4, 18] (by rw [hsz]; decide) (by kernel_rfl))).trans (hF 18 (by decide))
      clear hρ hF hfun sl7 sl8 fin
      exact opv_val (by go_simp <;> rfl) ⟨gw_self _, rfl⟩
  · intro vals w1 hG hF
    exact fin vals w1 hG (hF 19 (by decide +kernel))
theorem rckc_r (Q : Exit → Act → World → Prop) (a0 : Act) (w : World) (bx bg M c j : Nat) (ad : Addr) (s u : ByteArray) (r : Bool) (hs : Hid (∀ W, Below w.heap.size w W → W.cell? ⟨bx, 0, none⟩ = some (.string s) ∧ W.cell? ⟨bg, 1, none⟩ = some (.slice (some ad) M c) ∧ W.cell? (ad.add (j * 2)) = some (.string u))) (hg : goodS s = true) (hr : leS s u = r) (p1 : (0 : Int) ≤ (j : Int)) (p2 : (j : Int) + 1 < (M : Int)) (p3 : (M : Int) ≤ 100) (hsz : a0.tmps.size = 99) (sl1 : a0.tmps.getD 1 undef = .pointer (some ⟨bg, 0, none⟩)) (sl7 : a0.tmps.getD 7 undef = .int .i64 ((j : Int) + 1)) (sl8 : a0.tmps.getD 8 undef = .pointer (some ⟨bx, 0, none⟩))
    (fin : ∀ (vals : Nat → Value) (w1 : World), Below w.heap.size w w1 → (IsV (.bool r)) (vals 19) w1 → Q .normal (putD vals [70, 71, 72, 73, 74, 75, 76, 77, 78, 79, 80, 81, 82, 83, 84, 85, 86, 87, 88, 89] 0 a0) w1) :
    (Code.region 19 (regIn Tryd.f9 19) true).wp Tryd.prog Q a0 w := by
  refine region_by (G := fun w w1 => Below w.heap.size w w1) [IsV (.pointer (some ⟨bx, 0, none⟩)),
    IsV (.string s),
    IsV (.bool true),
    IsV (.bool false),
    IsV (.bool false),
    IsV (.int .i64 ((j : Int) + 1)),
    IsV (.bool true),
    IsV (.bool true),
    IsV (.pointer (some ⟨bg, 1, none⟩)),
    IsV (.slice (some ad) M c),
    IsV (.int .i64 ((j : Int) + 1)),
    IsV (.int .i64 j),
    IsV (.pointer (some (ad.add (j * 2)))),
    IsV (.pointer (some (ad.add (j * 2)))),
    IsV (.string u),
    IsV (.pointer (some ⟨bx, 0, none⟩)),
    IsV (.string s),
    IsV (.bool r),
    IsV (.bool r),
    IsV (.bool r)]
    [70, 71, 72, 73, 74, 75, 76, 77, 78, 79, 80, 81, 82, 83, 84, 85, 86, 87, 88, 89] (by kernel_rfl) (Gw.drew _) Gw.trans (by rw [hsz]; kernel_rfl) (by kernel_rfl) ?_ ?_ ?_
  · intro f hf
    simp only [List.mem_cons, List.not_mem_nil, or_false] at hf
    rcases hf with rfl | rfl | rfl | rfl | rfl | rfl | rfl | rfl | rfl | rfl | rfl | rfl | rfl | rfl | rfl | rfl | rfl | rfl | rfl | rfl <;> intro v a b h g <;> first | exact IsV.mono h
  · refine ⟨?_, ?_, ?_, ?_, ?_, ?_, ?_, ?_, ?_, ?_, ?_, ?_, ?_, ?_, ?_, ?_, ?_, ?_, ?_, ?_, trivial⟩
    · refine owes_v (Go.Op.fieldAddr 56 (Go.Operand.tmp 8) 0) 0 [] (by kernel_rfl) (by kernel_rfl) (by kernel_rfl) rfl fun vals w1 ρ hG hF hρ hcst hfun => ?_
      have e8 : ρ (.tmp 8) = .pointer (some ⟨bx, 0, none⟩) := ((hρ 8).trans (slotO [] (by kernel_rfl))).trans sl8
      clear hρ hF hcst hfun sl1 sl7 sl8 fin
      exact opv_val (by go_simp <;> rfl) ⟨gw_self _, rfl⟩
    · refine owes_v (Go.Op.load 9 (Go.Operand.tmp 70)) 9 [0] (by kernel_rfl) (by kernel_rfl) (by kernel_rfl) rfl fun vals w1 ρ hG hF hρ hcst hfun => ?_
      have e70 : ρ (.tmp 70) = .pointer (some ⟨bx, 0, none⟩) := ((hρ 70).trans (slotJ [0] (by rw [hsz]; decide) (by kernel_rfl))).trans (hF 0 (by decide))
      have k := (hs.out w1 hG).1
      clear hρ hF hcst hfun sl1 sl7 sl8 fin
      exact opv_val (by go_simp <;> rfl) ⟨gw_self _, rfl⟩
    · refine owes_v (Go.Op.call { callee := Go.Callee.value (Go.Operand.func 25), args := #[Go.Operand.tmp 71], argTypes := #[9] }) 4 [1] (by kernel_rfl) (by kernel_rfl) (by kernel_rfl) rfl fun vals w1 ρ hG hF hρ hcst hfun => ?_
      have e71 : ρ (.tmp 71) = .string s := ((hρ 71).trans (slotJ [1] (by rw [hsz]; decide) (by kernel_rfl))).trans (hF 1 (by decide))
      clear hρ hF hcst sl1 sl7 sl8 fin
      exact opv_enter (by go_simp <;> rfl) (of_ret17 (hg ▸ rgood_s s w1))
    · refine owes_v (Go.Op.unOp Go.UnOp.not 4 (Go.Operand.tmp 72)) 4 [2] (by kernel_rfl) (by kernel_rfl) (by kernel_rfl) rfl fun vals w1 ρ hG hF hρ hcst hfun => ?_
      have e72 : ρ (.tmp 72) = .bool true := ((hρ 72).trans (slotJ [2] (by rw [hsz]; decide) (by kernel_rfl))).trans (hF 2 (by decide))
      clear hρ hF hcst hfun sl1 sl7 sl8 fin
      exact opv_val (by go_simp <;> rfl) ⟨gw_self _, rfl⟩
    · exact owes_mvj 3 73 (by kernel_rfl) (by kernel_rfl) (by kernel_rfl) (by kernel_rfl) (by rw [hsz]; decide) (fun v w h => h)
    · refine owes_vt 4 false (Go.Op.move (Go.Operand.tmp 7)) 3 [] (by kernel_rfl) (by kernel_rfl) (by kernel_rfl) (fun _ _ h => h) (by rw [hsz]; kernel_rfl) (by kernel_rfl) rfl fun vals w1 ρ hG hF hρ hcst hfun => ?_
      have e7 : ρ (.tmp 7) = .int .i64 ((j : Int) + 1) := ((hρ 7).trans (slotO [] (by kernel_rfl))).trans sl7
      clear hρ hF hcst hfun sl1 sl7 sl8 fin
      exact opv_val (by go_simp <;> rfl) ⟨gw_self _, rfl⟩
    · refine owes_vt 4 false (Go.Op.binOp Go.BinOp.gtr 3 (Go.Operand.tmp 75) (Go.Operand.const (Go.Value.int Go.IntKind.i64 0)) 3) 4 [5] (by kernel_rfl) (by kernel_rfl) (by kernel_rfl) (fun _ _ h => h) (by rw [hsz]; kernel_rfl) (by kernel_rfl) rfl fun vals w1 ρ hG hF hρ hcst hfun => ?_
      have e75 : ρ (.tmp 75) = .int .i64 ((j : Int) + 1) := ((hρ 75).trans (slotJ [5] (by rw [hsz]; decide) (by kernel_rfl))).trans (hF 5 (by decide))
      have q : (0 : Int) < (j : Int) + 1 := by omega
      clear hρ hF hfun sl1 sl7 sl8 fin
      exact opv_val (by go_simp <;> rfl) ⟨gw_self _, rfl⟩
    · refine owes_vt 4 false (Go.Op.move (Go.Operand.tmp 76)) 4 [6] (by kernel_rfl) (by kernel_rfl) (by kernel_rfl) (fun _ _ h => h) (by rw [hsz]; kernel_rfl) (by kernel_rfl) rfl fun vals w1 ρ hG hF hρ hcst hfun => ?_
      have e76 : ρ (.tmp 76) = .bool true := ((hρ 76).trans (slotJ [6] (by rw [hsz]; decide) (by kernel_rfl))).trans (hF 6 (by decide))
      clear hρ hF hcst hfun sl1 sl7 sl8 fin
      exact opv_val (by go_simp <;> rfl) ⟨gw_self _, rfl⟩
    · refine owes_vt 7 true (Go.Op.fieldAddr 32 (Go.Operand.tmp 1) 1) 0 [] (by kernel_rfl) (by kernel_rfl) (by kernel_rfl) (fun _ _ h => h) (by rw [hsz]; kernel_rfl) (by kernel_rfl) rfl fun vals w1 ρ hG hF hρ hcst hfun => ?_
      have e1 : ρ (.tmp 1) = .pointer (some ⟨bg, 0, none⟩) := ((hρ 1).trans (slotO [] (by kernel_rfl))).trans sl1
      clear hρ hF hcst hfun sl1 sl7 sl8 fin
      exact opv_val (by go_simp <;> rfl) ⟨gw_self _, rfl⟩
    · refine owes_vt 7 true (Go.Op.load 30 (Go.Operand.tmp 78)) 30 [8] (by kernel_rfl) (by kernel_rfl) (by kernel_rfl) (fun _ _ h => h) (by rw [hsz]; kernel_rfl) (by kernel_rfl) rfl fun vals w1 ρ hG hF hρ hcst hfun => ?_
      have e78 : ρ (.tmp 78) = .pointer (some ⟨bg, 1, none⟩) := ((hρ 78).trans (slotJ [8] (by rw [hsz]; decide) (by kernel_rfl))).trans (hF 8 (by decide))
      have k := (hs.out w1 hG).2.1
      clear hρ hF hcst hfun sl1 sl7 sl8 fin
      exact opv_val (by go_simp <;> rfl) ⟨gw_self _, rfl⟩
    · refine owes_vt 7 true (Go.Op.move (Go.Operand.tmp 7)) 3 [] (by kernel_rfl) (by kernel_rfl) (by kernel_rfl) (fun _ _ h => h) (by rw [hsz]; kernel_rfl) (by kernel_rfl) rfl fun vals w1 ρ hG hF hρ hcst hfun => ?_
      have e7 : ρ (.tmp 7) = .int .i64 ((j : Int) + 1) := ((hρ 7).trans (slotO [] (by kernel_rfl))).trans sl7
      clear hρ hF hcst hfun sl1 sl7 sl8 fin
      exact opv_val (by go_simp <;> rfl) ⟨gw_self _, rfl⟩
    · refine owes_vt 7 true (Go.Op.binOp Go.BinOp.sub 3 (Go.Operand.tmp 80) (Go.Operand.const (Go.Value.int Go.IntKind.i64 1)) 3) 3 [10] (by kernel_rfl) (by kernel_rfl) (by kernel_rfl) (fun _ _ h => h) (by rw [hsz]; kernel_rfl) (by kernel_rfl) rfl fun vals w1 ρ hG hF hρ hcst hfun => ?_
      have e80 : ρ (.tmp 80) = .int .i64 ((j : Int) + 1) := ((hρ 80).trans (slotJ [10] (by rw [hsz]; decide) (by kernel_rfl))).trans (hF 10 (by decide))
      have kw : IntKind.i64.wrap (j : Int) = (j : Int) := wrapIn (by omega) (by omega)
      clear hρ hF hfun sl1 sl7 sl8 fin
      exact opv_val (by go_simp <;> rfl) ⟨gw_self _, rfl⟩
    · refine owes_vt 7 true (Go.Op.indexAddr 30 (Go.Operand.tmp 79) (Go.Operand.tmp 81)) 0 [9, 11] (by kernel_rfl) (by kernel_rfl) (by kernel_rfl) (fun _ _ h => h) (by rw [hsz]; kernel_rfl) (by kernel_rfl) rfl fun vals w1 ρ hG hF hρ hcst hfun => ?_
      have e79 : ρ (.tmp 79) = .slice (some ad) M c := ((hρ 79).trans (slotJ [9, 11] (by rw [hsz]; decide) (by kernel_rfl))).trans (hF 9 (by decide))
      have e81 : ρ (.tmp 81) = .int .i64 j := ((hρ 81).trans (slotJ [9, 11] (by rw [hsz]; decide) (by kernel_rfl))).trans (hF 11 (by decide))
      have q : (j : Int) < (M : Int) := by omega
      clear hρ hF hcst hfun sl1 sl7 sl8 fin
      exact opv_val (by go_simp <;> rfl) ⟨gw_self _, rfl⟩
    · refine owes_vt 7 true (Go.Op.fieldAddr 56 (Go.Operand.tmp 82) 0) 0 [12] (by kernel_rfl) (by kernel_rfl) (by kernel_rfl) (fun _ _ h => h) (by rw [hsz]; kernel_rfl) (by kernel_rfl) rfl fun vals w1 ρ hG hF hρ hcst hfun => ?_
      have e82 : ρ (.tmp 82) = .pointer (some (ad.add (j * 2))) := ((hρ 82).trans (slotJ [12] (by rw [hsz]; decide) (by kernel_rfl))).trans (hF 12 (by decide))
      clear hρ hF hcst hfun sl1 sl7 sl8 fin
      exact opv_val (by go_simp <;> rfl) ⟨gw_self _, rfl⟩
    · refine owes_vt 7 true (Go.Op.load 9 (Go.Operand.tmp 83)) 9 [13] (by kernel_rfl) (by kernel_rfl) (by kernel_rfl) (fun _ _ h => h) (by rw [hsz]; kernel_rfl) (by kernel_rfl) rfl fun vals w1 ρ hG hF hρ hcst hfun => ?_
      have e83 : ρ (.tmp 83) = .pointer (some (ad.add (j * 2))) := ((hρ 83).trans (slotJ [13] (by rw [hsz]; decide) (by kernel_rfl))).trans (hF 13 (by decide))
      have k := (hs.out w1 hG).2.2
      clear hρ hF hcst hfun sl1 sl7 sl8 fin
      exact opv_val (by go_simp <;> rfl) ⟨gw_self _, rfl⟩
    · refine owes_vt 7 true (Go.Op.fieldAddr 56 (Go.Operand.tmp 8) 0) 0 [] (by kernel_rfl) (by kernel_rfl) (by kernel_rfl) (fun _ _ h => h) (by rw [hsz]; kernel_rfl) (by kernel_rfl) rfl fun vals w1 ρ hG hF hρ hcst hfun => ?_
      have e8 : ρ (.tmp 8) = .pointer (some ⟨bx, 0, none⟩) := ((hρ 8).trans (slotO [] (by kernel_rfl))).trans sl8
      clear hρ hF hcst hfun sl1 sl7 sl8 fin
      exact opv_val (by go_simp <;> rfl) ⟨gw_self _, rfl⟩
    · refine owes_vt 7 true (Go.Op.load 9 (Go.Operand.tmp 85)) 9 [15] (by kernel_rfl) (by kernel_rfl) (by kernel_rfl) (fun _ _ h => h) (by rw [hsz]; kernel_rfl) (by kernel_rfl) rfl fun vals w1 ρ hG hF hρ hcst hfun => ?_
      have e85 : ρ (.tmp 85) = .pointer (some ⟨bx, 0, none⟩) := ((hρ 85).trans (slotJ [15] (by rw [hsz]; decide) (by kernel_rfl))).trans (hF 15 (by decide))
      have k := (hs.out w1 hG).1
      clear hρ hF hcst hfun sl1 sl7 sl8 fin
      exact opv_val (by go_simp <;> rfl) ⟨gw_self _, rfl⟩
    · refine owes_vt 7 true (Go.Op.binOp Go.BinOp.geq 9 (Go.Operand.tmp 84) (Go.Operand.tmp 86) 9) 4 [14, 16] (by kernel_rfl) (by kernel_rfl) (by kernel_rfl) (fun _ _ h => h) (by rw [hsz]; kernel_rfl) (by kernel_rfl) rfl fun vals w1 ρ hG hF hρ hcst hfun => ?_
      have e84 : ρ (.tmp 84) = .string u := ((hρ 84).trans (slotJ [14, 16] (by rw [hsz]; decide) (by kernel_rfl))).trans (hF 14 (by decide))
      have e86 : ρ (.tmp 86) = .string s := ((hρ 86).trans (slotJ [14, 16] (by rw [hsz]; decide) (by kernel_rfl))).trans (hF 16 (by decide))
      have q := hr
      unfold leS at q
      clear hρ hF hcst hfun sl1 sl7 sl8 fin
      exact opv_val (by go_simp <;> first | rfl | exact q | (rw [← q]; exact less_tri _ _) | exact less_tri _ _) ⟨gw_self _, rfl⟩
    · refine owes_vt 4 false (Go.Op.pick (Go.Operand.tmp 77) (Go.Operand.tmp 87) (Go.Operand.const (Go.Value.bool false))) 4 [7, 17] (by kernel_rfl) (by kernel_rfl) (by kernel_rfl) (fun _ _ h => h) (by rw [hsz]; kernel_rfl) (by kernel_rfl) rfl fun vals w1 ρ hG hF hρ hcst hfun => ?_
      have e77 : ρ (.tmp 77) = .bool true := ((hρ 77).trans (slotJ [7, 17] (by rw [hsz]; decide) (by kernel_rfl))).trans (hF 7 (by decide))
      have e87 : ρ (.tmp 87) = .bool r := ((hρ 87).trans (slotJ [7, 17] (by rw [hsz]; decide) (by kernel_rfl))).trans (hF 17 (by decide))
      clear hρ hF hfun sl1 sl7 sl8 fin
      exact opv_val (by go_simp <;> rfl) ⟨gw_self _, rfl⟩
    · refine owes_v (Go.Op.pick (Go.Operand.tmp 74) (Go.Operand.const (Go.Value.bool true)) (Go.Operand.tmp 88)) 4 [4, 18] (by kernel_rfl) (by kernel_rfl) (by kernel_rfl) rfl fun vals w1 ρ hG hF hρ hcst hfun => ?_
      have e74 : ρ (.tmp 74) = .bool false := ((hρ 74).trans (slotJ [4, 18] (by rw [hsz]; decide) (by kernel_rfl))).trans (hF 4 (by decide))
      have e88 : ρ (.tmp 88) = .bool r := ((hρ 88).trans (slotJ [4, 18] (by rw [hsz]; decide) (by kernel_rfl))).trans (hF 18 (by decide))
      clear hρ hF hfun sl1 sl7 sl8 fin
      exact opv_val (by go_simp <;> rfl) ⟨gw_self _, rfl⟩
  · intro vals w1 hG hF
    exact fin vals w1 hG (hF 19 (by decide +kernel))
theorem all_snoc {N : Nat} {l : List Int} {n : Nat} (h : n < l.length) (h1 : (l.take n).all (okP N) = true) (h2 : okP N l[n] = true) : (l.take (n + 1)).all (okP N) = true := by
  rw [List.take_succ_eq_append_getElem h, List.all_append, h1]
  simp [h2]
theorem all_bad {N : Nat} {l : List Int} {n : Nat} (h : n < l.length) (h2 : ¬ okP N l[n] = true) : ¬ l.all (okP N) = true := fun e => by
  rw [List.all_eq_true] at e
  exact h2 (e _ (List.getElem_mem h))
theorem rcheck_c (w : World) (g : Gv) (hg : g.At w w.heap.size) (hs : FewP g) : Calls Tryd.prog 9 #[g.v] w (RetP (.int .i64 (ckG g)) w) := by
  obtain ⟨R, hR⟩ : ∃ R, R = ckG g := ⟨_, rfl⟩
  rw [← hR]
  have HR := Lib.hid hR
  have HG := Lib.hid hg
  have HP := Lib.hid hs.2.2.1
  have hsn := hs.1
  have hsr := hs.2.1
  obtain ⟨A, ca, A2, ca2, ns, rs⟩ := g
  obtain ⟨N, hN⟩ : ∃ N, N = ns.length := ⟨_, rfl⟩
  obtain ⟨M, hM⟩ : ∃ M, M = rs.length := ⟨_, rfl⟩
  have q0 : (N : Int) ≤ 60 := by rw [hN]; exact Int.ofNat_le.2 hsn
  have q1 : (M : Int) ≤ 80 := by rw [hM]; exact Int.ofNat_le.2 hsr
  have HN := Lib.hid (And.intro hN hM)
  have HR2 := Lib.hid (show R = if ckNodes N ns = 0 then (if 64 < M then 3 else ckRoots N emptyS rs) else ckNodes N ns from by rw [hR, hN, hM]; rfl)
  unfold Gv.v Gv.vn Gv.vr
  simp only at HP ⊢
  rw [← hN, ← hM]
  clear hg hs hsn hsr hN hM hR
  go_enter Tryd.func9, Tryd.ntmps9
  go_wp2_with fail
  obtain ⟨W1, hW1⟩ : ∃ W1, W1 = w.alloc (.cells #[.slice A N ca, .slice A2 M ca2] 32) := ⟨_, rfl⟩
  have HW1 := Lib.hid (show Bk W1 w.heap.size 32 #[.slice A N ca, .slice A2 M ca2] ∧ Below w.heap.size w W1 from by
    rw [hW1]
    exact ⟨Bk.new w _ _, Gw.alloc w _⟩)
  rw [← hW1]
  clear hW1
  go_loopw [4] (fun i W => ∃ k : Nat, i = .int .i64 k ∧ k ≤ N ∧ Hid (ckNodes N (ns.drop k) = ckNodes N ns) ∧ Below W1.heap.size W1 W) (fun i _ => N - (Go.RowKit.intOf i).toNat)
  case atStart => exact ⟨0, rfl, Nat.zero_le _, Lib.hid rfl, Below.refl _ _⟩
  case round =>
    obtain ⟨k, rfl, hk, hck, hB⟩ := hrel
    have HBk := Lib.hid hB
    have hb1 := HW1.out.1.below hB HW1.out.1.lt
    have c0 := hb1.two.1
    have hl1 := hb1.lt
    have HBw := Lib.hid (show Below w.heap.size w wr from HW1.out.2.trans (hB.mono HW1.out.2.size))
    by_cases hlt : k < N
    · have hkn : k < ns.length := by rw [← HN.out.1]; exact hlt
      obtain ⟨x, hx⟩ : ∃ x, x = ns[k] := ⟨_, rfl⟩
      obtain ⟨ad, rfl, hc2, hc3, hxa⟩ : ∃ ad, A = some ad ∧ wr.cell? (ad.add (k * 2)) = some x.vp ∧ wr.cell? ⟨(ad.add (k * 2)).block, (ad.add (k * 2)).off + 1, none⟩ = some x.vd ∧ x.At wr wr.heap.size := by
        obtain ⟨ad, e, _, h1, h2, h3⟩ := (HG.out.n.below HBw.out) k hkn
        exact ⟨ad, e, by rw [hx]; exact h1, by rw [hx]; exact h2, by rw [hx]; exact h3.more HBw.out.size⟩
      have hsz := HP.out x (by rw [hx]; exact List.getElem_mem _)
      have HS := Lib.hid (ckNodes_drop N ns k hkn)
      rw [← hx] at HS
      have HZ := Lib.hid (show ∀ z, ckNode N x = z → z ≠ 0 → R = z from fun z hz h0 => by
        have e : ckNodes N ns = z := by rw [← hck.out, HS.out, if_neg (by rw [hz]; exact h0), hz]
        rw [HR2.out, e, if_neg h0])
      have HO := Lib.hid (show ckNode N x = 0 → ckNodes N (ns.drop (k + 1)) = ckNodes N ns from fun h0 => by rw [← hck.out, HS.out, if_pos h0])
      have p1 : (0 : Int) ≤ (k : Int) := by omega
      have p2 : (k : Int) < (N : Int) := by omega
      clear hx hkn hB hck hb1 HS
      obtain ⟨xA, xc, xD, xd, xps, xbs⟩ := x
      obtain ⟨xn, hxn⟩ : ∃ n, n = xps.length := ⟨_, rfl⟩
      obtain ⟨xm, hxm⟩ : ∃ n, n = xbs.length := ⟨_, rfl⟩
      unfold Nv.vp at hc2
      unfold Nv.vd at hc3
      simp only at hc2 hc3 hsz
      rw [← hxn] at hc2 hsz
      rw [← hxm] at hc3 hsz
      have HX := Lib.hid (show ∀ b, xps.all (okP N) = b → ckNode N ⟨xA, xc, xD, xd, xps, xbs⟩ = if b = true then (if 64 < xn ∨ 1024 < xm then 3 else 0) else 1 from fun b hb => by unfold ckNode; rw [hb, hxn, hxm])
      have hcl := cell_lt hc2
      have hcl' : (ad.add (k * 2)).block < wr.heap.size := hcl
      obtain ⟨W2, hW2⟩ : ∃ W2, W2 = wr.alloc (.cells #[.slice xA xn xc, .slice xD xm xd] 49) := ⟨_, rfl⟩
      have HW2 := Lib.hid (show Bk W2 wr.heap.size 49 #[.slice xA xn xc, .slice xD xm xd] ∧ Below wr.heap.size wr W2 from by
        rw [hW2]
        exact ⟨Bk.new wr _ _, Gw.alloc wr _⟩)
      have HXY := Lib.hid (hxa.up HW2.out.2)
      have hW2' := Lib.hid hW2
      have HL := Lib.hid hxn
      have hq1 : (xn : Int) ≤ 70 := by have := hsz.1; omega
      have hq2 : (xm : Int) ≤ 1100 := by have := hsz.2; omega
      clear hxa hcl hW2 hxn hxm hsz
      go_wp2_with fail
      rw [← hW2'.out]
      clear hc2 hc3 hcl' c0
      have HBo := Lib.hid (show Below W1.heap.size W1 W2 from HBk.out.trans (HW2.out.2.mono HBk.out.size))
      have HBz := Lib.hid (show Below w.heap.size w W2 from HBw.out.trans (HW2.out.2.mono HBw.out.size))
      obtain ⟨bx, hbx⟩ : ∃ bx, bx = wr.heap.size := ⟨_, rfl⟩
      rw [← hbx] at HW2 ⊢
      clear hbx
      go_loopw [6] (fun i W => ∃ n : Nat, i = .int .i64 n ∧ n ≤ xn ∧ Hid ((xps.take n).all (okP N) = true) ∧ Below W2.heap.size W2 W) (fun i _ => xn - (Go.RowKit.intOf i).toNat)
      case atStart => exact ⟨0, rfl, Nat.zero_le _, Lib.hid rfl, Below.refl _ _⟩
      case round =>
        obtain ⟨n, rfl, hn, ht, hB⟩ := hrel
        have hb1 := HW2.out.1.below hB HW2.out.1.lt
        have HBn := Lib.hid hB
        have d0 := hb1.two.1
        have d1 := hb1.two.2
        by_cases hln : n < xn
        · have h1 : n < xps.length := by rw [← HL.out]; exact hln
          obtain ⟨x, hx⟩ : ∃ y, y = xps[n] := ⟨_, rfl⟩
          obtain ⟨aa, rfl, haa, hca⟩ := (HXY.out.p.below hB) n h1
          rw [← hx] at hca
          unfold iV at hca
          have p3 : (0 : Int) ≤ (n : Int) := by omega
          have p4 : (n : Int) < (xn : Int) := by omega
          have HBd := Lib.hid (show ¬ okP N x = true → R = 1 from fun e => by
            have ha : xps.all (okP N) = false := by
              cases hc : xps.all (okP N) with
              | false => rfl
              | true => exact absurd hc (all_bad h1 (by rw [← hx]; exact e))
            have := HX.out false ha
            exact HZ.out 1 (by rw [this]; rfl) (by decide))
          have HGd := Lib.hid (show okP N x = true → (xps.take (n + 1)).all (okP N) = true from fun e => all_snoc h1 ht.out (by rw [← hx]; exact e))
          clear hx haa h1 ht hB hb1
          by_cases h0 : x < 0
          · have HRf := Lib.hid (HBd.out (fun e => by have := okP_iff.1 e; omega))
            go_wp2_with fail
            go_ret
            rw [HRf.out]
            exact ⟨rfl, HBz.out.trans (HBn.out.mono HBz.out.size)⟩
          · by_cases h2 : (N : Int) < x
            · have HRf := Lib.hid (HBd.out (fun e => by have := okP_iff.1 e; omega))
              go_wp2_with fail
              go_ret
              rw [HRf.out]
              exact ⟨rfl, HBz.out.trans (HBn.out.mono HBz.out.size)⟩
            · have HT := Lib.hid (HGd.out (okP_iff.2 (by omega)))
              go_wp2_with fail
              go_roundw
              case rel => exact ⟨n + 1, by go_num, by omega, HT, HBn.out⟩
              case measure => simp [Go.RowKit.intOf]; omega
        · have hnx : n = xn := by omega
          have HC := Lib.hid (HX.out true (by
            have := ht.out
            rwa [hnx, List.take_of_length_le (by rw [← HL.out]; exact Nat.le_refl _)] at this))
          clear hnx ht hb1 hB
          by_cases g1 : 64 < xn
          · have t1 : (64 : Int) < (xn : Int) := by omega
            have HRf := Lib.hid (HZ.out 3 (by rw [HC.out, if_pos rfl, if_pos (.inl g1)]) (by decide))
            go_wp2_with fail
            go_ret
            rw [HRf.out]
            exact ⟨rfl, HBz.out.trans (HBn.out.mono HBz.out.size)⟩
          · have t1 : ¬ (64 : Int) < (xn : Int) := by omega
            by_cases g2 : 1024 < xm
            · have t2 : (1024 : Int) < (xm : Int) := by omega
              have HRf := Lib.hid (HZ.out 3 (by rw [HC.out, if_pos rfl, if_pos (.inr g2)]) (by decide))
              go_wp2_with fail
              go_ret
              rw [HRf.out]
              exact ⟨rfl, HBz.out.trans (HBn.out.mono HBz.out.size)⟩
            · have t2 : ¬ (1024 : Int) < (xm : Int) := by omega
              have HK := Lib.hid (HO.out (by rw [HC.out, if_pos rfl, if_neg (by omega)]))
              have HBy := Lib.hid (HBo.out.trans (HBn.out.mono HBo.out.size))
              go_wp2_with fail
              go_roundw
              case rel => exact ⟨k + 1, by go_num, by omega, HK, HBy.out⟩
              case measure => simp [Go.RowKit.intOf]; omega
    · have hkN : k = N := by omega
      have hck0 : ckNodes N ns = 0 := by rw [← hck.out, hkN, HN.out.1, List.drop_length]; rfl
      have hR3 : R = if 64 < M then 3 else ckRoots N emptyS rs := by rw [HR2.out, if_pos hck0]
      have c1 := hb1.two.2
      clear hkN hck hck0 hb1 c0
      by_cases h64 : 64 < M
      · have t1 : (64 : Int) < (M : Int) := by omega
        have HRf := Lib.hid (hR3.trans (if_pos h64))
        clear hR3 hB
        go_wp2_with fail
        go_ret
        rw [HRf.out]
        exact ⟨rfl, HBw.out⟩
      · have t1 : ¬ (64 : Int) < (M : Int) := by omega
        have HR3 := Lib.hid (hR3.trans (if_neg h64))
        clear hR3
        go_wp2_with fail
        clear c1 hl1 hlt hk h64 t1
        obtain ⟨W0, hW0⟩ : ∃ W0, W0 = wr := ⟨_, rfl⟩
        rw [← hW0] at hB ⊢
        clear hW0
        go_loopw [7] (fun i W => ∃ k : Nat, i = .int .i64 k ∧ k ≤ M ∧ Hid (R = ckRoots N (prevS rs k) (rs.drop k)) ∧ Below W1.heap.size W1 W) (fun i _ => M - (Go.RowKit.intOf i).toNat)
        case atStart => exact ⟨0, rfl, Nat.zero_le _, Lib.hid HR3.out, hB⟩
        case round =>
          obtain ⟨k, rfl, hk, hck, hB⟩ := hrel
          have HBk := Lib.hid hB
          have hb1 := HW1.out.1.below hB HW1.out.1.lt
          have c1 := hb1.two.2
          have hl1 := hb1.lt
          have HBw := Lib.hid (show Below w.heap.size w wr from HW1.out.2.trans (hB.mono HW1.out.2.size))
          by_cases hlt : k < M
          · have hkn : k < rs.length := by rw [← HN.out.2]; exact hlt
            obtain ⟨x, hx⟩ : ∃ x, x = rs[k] := ⟨_, rfl⟩
            obtain ⟨ad, rfl, hc2, hc3, hprev⟩ : ∃ ad, A2 = some ad ∧ wr.cell? (ad.add (k * 2)) = some (.string x.s) ∧ wr.cell? ⟨(ad.add (k * 2)).block, (ad.add (k * 2)).off + 1, none⟩ = some (.int .i64 x.t) ∧ ∀ j, k = j + 1 → wr.cell? (ad.add (j * 2)) = some (.string (prevS rs k)) := by
              obtain ⟨ad, e, _, h1, h2⟩ := (HG.out.r.below HBw.out) k hkn
              refine ⟨ad, e, by rw [hx]; exact h1, by rw [hx]; exact h2, fun j hj => ?_⟩
              have hjn : j < rs.length := by omega
              obtain ⟨ad', e', _, h3, _⟩ := (HG.out.r.below HBw.out) j hjn
              have he : ad = ad' := by rw [e] at e'; injection e'
              subst he
              rw [h3, hj]
              show some (Value.string _) = some (Value.string (((rs[j]?).map (·.s)).getD emptyS))
              rw [List.getElem?_eq_getElem hjn]; rfl
            have HS := Lib.hid (hck.out.trans (ckRoots_drop N (prevS rs k) rs k hkn))
            rw [← hx] at HS
            have HPn := Lib.hid (show prevS rs (k + 1) = x.s from by show ((rs[k]?).map (·.s)).getD emptyS = _; rw [List.getElem?_eq_getElem hkn, hx]; rfl)
            have p1 : (0 : Int) ≤ (k : Int) := by omega
            have p2 : (k : Int) < (M : Int) := by omega
            obtain ⟨s, t⟩ := x
            simp only at hc2 hc3 HS HPn
            have hcl := cell_lt hc2
            have hcl' : (ad.add (k * 2)).block < wr.heap.size := hcl
            obtain ⟨W2, hW2⟩ : ∃ W2, W2 = wr.alloc (.cells #[.string s, .int .i64 t] 56) := ⟨_, rfl⟩
            have HW2 := Lib.hid (show Bk W2 wr.heap.size 56 #[.string s, .int .i64 t] ∧ Below wr.heap.size wr W2 from by
              rw [hW2]
              exact ⟨Bk.new wr _ _, Gw.alloc wr _⟩)
            have hW2' := Lib.hid hW2
            have HBo := Lib.hid (show Below W1.heap.size W1 W2 from HBk.out.trans (HW2.out.2.mono HBk.out.size))
            have HBz := Lib.hid (show Below w.heap.size w W2 from HBw.out.trans (HW2.out.2.mono HBw.out.size))
            have HQ := Lib.hid (show ∀ W, Below W2.heap.size W2 W → W.cell? ⟨wr.heap.size, 0, none⟩ = some (.string s) from fun W b => (HW2.out.1.below b HW2.out.1.lt).cell 0)
            have HQ3 := Lib.hid (show ∀ j, k = j + 1 → ∀ W, Below W2.heap.size W2 W → W.cell? ⟨wr.heap.size, 0, none⟩ = some (.string s) ∧ W.cell? ⟨w.heap.size, 1, none⟩ = some (.slice (some ad) M ca2) ∧ W.cell? (ad.add (j * 2)) = some (.string (prevS rs k)) from fun j hj W b =>
              ⟨HQ.out W b, ((hb1.below HW2.out.2 hb1.lt).below b (hb1.below HW2.out.2 hb1.lt).lt).cell 1, ((HW2.out.2.trans (b.mono HW2.out.2.size)).cell (cell_lt (hprev j hj))).trans (hprev j hj)⟩)
            clear hx hkn hB hck hb1 hcl hW2 hprev
            by_cases hg : goodS s = true
            · go_wp2_with fail
              rw [← hW2'.out]
              clear hc2 hc3 hcl' c1 hl1
              cases hle : leS s (prevS rs k) with
              | true =>
                have HRf := Lib.hid (show R = 4 from by rw [HS.out, if_neg (by rw [hle]; simp)])
                cases k with
                | zero => exact absurd (leS_empty hg) (by rw [show emptyS = prevS rs 0 from rfl, hle]; simp)
                | succ j =>
                  have p3 : (0 : Int) ≤ (j : Int) := by omega
                  have p4 : (j : Int) + 1 < (M : Int) := by omega
                  have p5 : (M : Int) ≤ 100 := by omega
                  refine rckc_r _ _ _ wr.heap.size w.heap.size M ca2 j ad s (prevS rs (j + 1)) true (Lib.hid (HQ3.out j rfl)) hg hle p3 p4 p5 rfl rfl rfl rfl ?_
                  intro vals w7 hG h89
                  unfold IsV at h89
                  simp only [putD, Act.put, List.setIfInBounds_toArray, List.set_cons_zero, List.set_cons_succ, h89]
                  have HB7 := Lib.hid (HBz.out.trans (hG.mono HBz.out.size))
                  clear hG h89
                  go_wp2_with fail
                  go_ret
                  rw [HRf.out]
                  exact ⟨rfl, HB7.out⟩
              | false =>
                have HS2 := Lib.hid (show R = if okP N t = true then ckRoots N s (rs.drop (k + 1)) else 1 from by rw [HS.out, if_pos ⟨hg, hle⟩])
                cases k with
                | zero =>
                  refine rckb_r _ _ _ wr.heap.size s HQ hg rfl rfl rfl ?_
                  intro vals w7 hG h89
                  unfold IsV at h89
                  simp only [putD, Act.put, List.setIfInBounds_toArray, List.set_cons_zero, List.set_cons_succ, h89]
                  have HB7 := Lib.hid (HBz.out.trans (hG.mono HBz.out.size))
                  have HBy := Lib.hid (HBo.out.trans (hG.mono HBo.out.size))
                  have d1 := (HW2.out.1.below hG HW2.out.1.lt).cell 1
                  have d1 : w7.cell? ⟨wr.heap.size, 1, none⟩ = some (.int .i64 t) := d1
                  clear hG h89
                  by_cases h0 : t < 0
                  · have HRf := Lib.hid (show R = 1 from by rw [HS2.out, if_neg (fun e => by have := okP_iff.1 e; omega)])
                    go_wp2_with fail
                    go_ret
                    rw [HRf.out]
                    exact ⟨rfl, HB7.out⟩
                  · by_cases h2 : (N : Int) < t
                    · have HRf := Lib.hid (show R = 1 from by rw [HS2.out, if_neg (fun e => by have := okP_iff.1 e; omega)])
                      go_wp2_with fail
                      go_ret
                      rw [HRf.out]
                      exact ⟨rfl, HB7.out⟩
                    · have HRn := Lib.hid (show R = ckRoots N (prevS rs (0 + 1)) (rs.drop (0 + 1)) from by rw [HPn.out, HS2.out, if_pos (okP_iff.2 (by omega))])
                      go_wp2_with fail
                      go_roundw
                      case rel => exact ⟨0 + 1, by go_num, by omega, HRn, HBy.out⟩
                      case measure => simp [Go.RowKit.intOf] <;> omega
                | succ j =>
                  have p3 : (0 : Int) ≤ (j : Int) := by omega
                  have p4 : (j : Int) + 1 < (M : Int) := by omega
                  have p5 : (M : Int) ≤ 100 := by omega
                  refine rckc_r _ _ _ wr.heap.size w.heap.size M ca2 j ad s (prevS rs (j + 1)) false (Lib.hid (HQ3.out j rfl)) hg hle p3 p4 p5 rfl rfl rfl rfl ?_
                  intro vals w7 hG h89
                  unfold IsV at h89
                  simp only [putD, Act.put, List.setIfInBounds_toArray, List.set_cons_zero, List.set_cons_succ, h89]
                  have HB7 := Lib.hid (HBz.out.trans (hG.mono HBz.out.size))
                  have HBy := Lib.hid (HBo.out.trans (hG.mono HBo.out.size))
                  have d1 := (HW2.out.1.below hG HW2.out.1.lt).cell 1
                  have d1 : w7.cell? ⟨wr.heap.size, 1, none⟩ = some (.int .i64 t) := d1
                  clear hG h89
                  by_cases h0 : t < 0
                  · have HRf := Lib.hid (show R = 1 from by rw [HS2.out, if_neg (fun e => by have := okP_iff.1 e; omega)])
                    go_wp2_with fail
                    go_ret
                    rw [HRf.out]
                    exact ⟨rfl, HB7.out⟩
                  · by_cases h2 : (N : Int) < t
                    · have HRf := Lib.hid (show R = 1 from by rw [HS2.out, if_neg (fun e => by have := okP_iff.1 e; omega)])
                      go_wp2_with fail
                      go_ret
                      rw [HRf.out]
                      exact ⟨rfl, HB7.out⟩
                    · have HRn := Lib.hid (show R = ckRoots N (prevS rs ((j + 1) + 1)) (rs.drop ((j + 1) + 1)) from by rw [HPn.out, HS2.out, if_pos (okP_iff.2 (by omega))])
                      go_wp2_with fail
                      go_roundw
                      case rel => exact ⟨(j + 1) + 1, by go_num, by omega, HRn, HBy.out⟩
                      case measure => simp [Go.RowKit.intOf] <;> omega
            · have hg0 : goodS s = false := by simpa using hg
              have HRf := Lib.hid (show R = 4 from by rw [HS.out, if_neg (by rw [hg0]; simp)])
              go_wp2_with fail
              rw [← hW2'.out]
              refine rcka_r _ _ _ wr.heap.size s (k : Int) HQ hg0 rfl rfl ?_
              intro vals w7 hG h89
              unfold IsV at h89
              simp only [putD, Act.put, List.setIfInBounds_toArray, List.set_cons_zero, List.set_cons_succ, h89]
              have HB7 := Lib.hid (HBz.out.trans (hG.mono HBz.out.size))
              clear hG h89
              go_wp2_with fail
              go_ret
              rw [HRf.out]
              exact ⟨rfl, HB7.out⟩
          · have hkM : k = M := by omega
            have HRf := Lib.hid (show R = 0 from by rw [hck.out, hkM, HN.out.2, List.drop_length]; rfl)
            clear hkM hck hb1 hB
            go_wp2_with fail
            go_ret
            rw [HRf.out]
            exact ⟨rfl, HBw.out⟩
end Go.Proofs.YtdppnggchpchgaaDoor
/- The reference's Equal at graphs. Conditions: lengths. -/
namespace Go.Proofs.YtdppnggchpchgaaDoor
set_option linter.unusedVariables false
set_option linter.unusedSimpArgs false
open Go.RowKit Go.Maps
set_option maxHeartbeats 4000000
set_option maxRecDepth 100000
theorem same_false {a b : Gv} (h : ¬ (a.r = b.r ∧ a.n.map Nv.m = b.n.map Nv.m)) : sameG a b = false := by
  cases e : sameG a b with
  | false => rfl
  | true =>
    unfold sameG at e
    rw [Bool.and_eq_true, sameR_iff, sameNs_iff] at e
    exact absurd e h
end Go.Proofs.YtdppnggchpchgaaDoor
