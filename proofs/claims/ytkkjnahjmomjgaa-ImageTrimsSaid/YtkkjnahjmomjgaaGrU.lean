/- The closure of graph.Reach. Conditions: lengths. -/
import Derived.Test.YtkkjnahjmomjgaaGrT
import Derived.Test.YtkkjnahjmomjgaaGrP
import Derived.Test.YtkkjnahjmomjgaaMmA
namespace Go.Proofs.Ytkkjnahjmomjgaa
set_option linter.unusedVariables false
set_option linter.unusedSimpArgs false
open Go.RowKit
def tV (b : Bool) : Value := .bool b
theorem tV_one : ∀ x : Bool, (tV x).oneCell' = true := fun _ => rfl
theorem oneT : One Try.prog 98 4 (.bool false) 1 :=
  ⟨by kernel_rfl, by
    have h : (Try.prog.info? 4).map (fun i => (i.zero, i.size, i.bytes)) = some (some (.bool false), 1, 1) := by kernel_rfl
    obtain ⟨i, h1, h2, h3, h4⟩ := info_parts h
    exact ⟨i, h1, h2, h3, h4⟩, rfl⟩
/-- What Reach works on: the graph's box, what is seen, the work. -/
structure RS (W : World) (s q sb wb : Nat) (vn vr : Value) (N : Nat) (seen : List Bool) (work : List Int) : Prop where
  gb : Bk W s 25 #[vn, vr]
  sbk : Bk W sb 98 #[.slice (some ⟨q, 0, none⟩) N N]
  sn : Ow tV 4 W (s + 1) (.slice (some ⟨q, 0, none⟩) N N) seen
  wk : ∃ v, Bk W wb 49 #[v] ∧ Ow iV 3 W (wb + 1) v work
  ord : s < q ∧ q < sb ∧ sb < wb
theorem RS.below {W W' : World} {s q sb wb : Nat} {vn vr : Value} {N : Nat} {seen : List Bool} {work : List Int} (h : RS W s q sb wb vn vr N seen work) (hb : Below W.heap.size W W') : RS W' s q sb wb vn vr N seen work := by
  obtain ⟨v, h1, h2⟩ := h.wk
  exact ⟨h.gb.below hb h.gb.lt, h.sbk.below hb h.sbk.lt, h.sn.below hb, ⟨v, h1.below hb h1.lt, h2.below hb⟩, h.ord⟩
theorem fold_take {N : Nat} (ps : List Int) (k : Nat) (h : k < ps.length) (s : List Bool × List Int) : (ps.take (k + 1)).foldl (stepS N) s = stepS N ((ps.take k).foldl (stepS N) s) ps[k] := by
  rw [List.take_succ_eq_append_getElem h, List.foldl_append]; rfl
theorem rd1_newS (w : World) (a : Addr) (u : Value) (E : TypeId) (t : Int) : Rd iV ((w.setCell a u).alloc (.cells #[.int .i64 t] E)) (w.heap.size + 1) (some ⟨w.heap.size, 0, none⟩) [t] := by
  have := rd1_new (f := iV) (w := w.setCell a u) (E := E) (y := t) (u := .int .i64 t) rfl
  have e : (w.setCell a u).heap.size = w.heap.size := by simp [World.setCell]
  rw [e] at this
  exact this
set_option maxHeartbeats 2000000
set_option maxRecDepth 100000
theorem look_c (w : World) (s q sb wb : Nat) (A1 A2 : Option Addr) (N c1 M c2 : Nat) (seen : List Bool) (work : List Int) (h : RS w s q sb wb (.slice A1 N c1) (.slice A2 M c2) N seen work) (hs : seen.length = N) (A : Option Addr) (c : Nat) (ps : List Int) (hr : Rd iV w s A ps) (hl : ps.length ≤ 1000000) (hL : leftG (seen, work) ≤ 4000000) (hN : N ≤ 1000000) :
    Calls Try.prog 84 #[.slice A ps.length c, .pointer (some ⟨s, 0, none⟩), .pointer (some ⟨sb, 0, none⟩), .pointer (some ⟨wb, 0, none⟩)] w fun e w' => e = .returned (.tuple #[]) ∧ RS w' s q sb wb (.slice A1 N c1) (.slice A2 M c2) N (ps.foldl (stepS N) (seen, work)).1 (ps.foldl (stepS N) (seen, work)).2 ∧ Below s w w' := by
  obtain ⟨st, hst⟩ : ∃ st, st = (seen, work) := ⟨_, rfl⟩
  have H0 := Lib.hid (show RS w s q sb wb (.slice A1 N c1) (.slice A2 M c2) N st.1 st.2 from by rw [hst]; exact h)
  have HS0 := Lib.hid (show st.1.length = N ∧ leftG st ≤ 4000000 from by rw [hst]; exact ⟨hs, hL⟩)
  rw [← hst]
  have HR := Lib.hid hr
  obtain ⟨L, hLn⟩ : ∃ L, L = ps.length := ⟨_, rfl⟩
  have HLn := Lib.hid hLn
  rw [← hLn]
  have q0 : (L : Int) ≤ 1000000 := by omega
  have q1 : (N : Int) ≤ 1000000 := by omega
  have HHas := Lib.hid (fun W p => has_c W A1 A2 N c1 M c2 p)
  have hsw : s < w.heap.size := h.gb.lt
  clear h hs hr hl hL hst hLn hN
  go_enter Try.func84, Try.ntmps84
  go_wp2_with fail
  go_loopw [9] (fun i W => ∃ (k : Nat) (t : List Bool × List Int), i = .int .i64 k ∧ k ≤ L ∧ Hid (t = (ps.take k).foldl (stepS N) st) ∧ RS W s q sb wb (.slice A1 N c1) (.slice A2 M c2) N t.1 t.2 ∧ Below s w W) (fun i _ => L - (intOf i).toNat)
  case atStart => exact ⟨0, st, rfl, Nat.zero_le _, Lib.hid rfl, H0.out, Below.refl _ _⟩
  case round =>
    obtain ⟨k, t, rfl, hk, ht, hS, hB⟩ := hrel
    by_cases hlt : k < L
    · have hkl : k < ps.length := by rw [← HLn.out]; exact hlt
      obtain ⟨p, hp⟩ : ∃ p, p = ps[k] := ⟨_, rfl⟩
      obtain ⟨ad, rfl, hcell⟩ : ∃ ad, A = some ad ∧ wr.cell? (ad.add k) = some (.int .i64 p) := by
        obtain ⟨ad, e, _, hc⟩ := (HR.out.below hB) k hkl
        exact ⟨ad, e, by rw [hp]; exact hc⟩
      have hnx := fold_take (N := N) ps k hkl st
      rw [← ht.out, ← hp] at hnx
      have htl : t.1.length = N := by rw [ht.out, steps_len]; exact HS0.out.1
      have hlf : leftG t ≤ 4000000 := by
        rw [ht.out]
        exact Nat.le_trans (steps_left _ _ HS0.out.1) HS0.out.2
      have HNX := Lib.hid (And.intro hnx (And.intro htl hlf))
      have g0 := hS.gb.two.1
      have g1 := hS.gb.two.2
      have HSS := Lib.hid (And.intro hS hB)
      have HQ := Lib.hid (HHas.out wr p)
      have p1 : (0 : Int) ≤ (k : Int) := by omega
      have p2 : (k : Int) < (L : Int) := by omega
      clear hp hkl hnx htl hlf hS hB ht
      cases hh : hasG N p with
      | false =>
        rw [hh] at HQ
        have HE := Lib.hid (show stepS N t p = t from by unfold stepS; rw [hh]; rfl)
        clear hh
        go_wp2_with fail
        refine Calls.mono HQ.out ?_
        rintro r w2 ⟨rfl, b2⟩
        have H2 := Lib.hid (And.intro (HSS.out.1.below b2) (HSS.out.2.trans (b2.mono (Nat.le_of_lt HSS.out.1.gb.lt))))
        clear b2 HQ
        go_wp2_with fail
        go_roundw
        case rel => exact ⟨k + 1, t, by go_num, by omega, Lib.hid (by rw [HNX.out.1, HE.out]), H2.out⟩
        case measure => (first | (simp [intOf]; done) | (simp [intOf]; omega))
      | true =>
        rw [hh] at HQ
        obtain ⟨j, rfl, hj⟩ : ∃ j : Nat, p = (j : Int) + 1 ∧ j < N := by
          have := hasG_iff.1 hh
          exact ⟨(p - 1).toNat, by omega, by omega⟩
        have hjt : j < t.1.length := by rw [HNX.out.2.1]; exact hj
        obtain ⟨y, hy⟩ : ∃ y, y = t.1[j] := ⟨_, rfl⟩
        have hsy : seenG t.1 ((j : Int) + 1) = y := by
          unfold seenG
          rw [show ((j : Int) + 1 - 1).toNat = j by omega, List.getD_eq_getElem?_getD, List.getElem?_eq_getElem hjt, hy]; rfl
        have hstp : stepS N t ((j : Int) + 1) = if y = true then t else (t.1.set j true, t.2 ++ [(j : Int) + 1]) := by
          unfold stepS
          rw [hh, hsy, show ((j : Int) + 1 - 1).toNat = j by omega]
          cases y <;> rfl
        have HST := Lib.hid hstp
        have j1 : (0 : Int) ≤ (j : Int) := by omega
        have j2 : (j : Int) < (N : Int) := by omega
        have HJ := Lib.hid (show t.1[j]? = some y from by rw [hy]; exact List.getElem?_eq_getElem hjt)
        clear hh hjt hsy hstp hj hy
        go_wp2_with fail
        refine Calls.mono HQ.out ?_
        rintro r w2 ⟨rfl, b2⟩
        have hS2 := HSS.out.1.below b2
        have hB2 := HSS.out.2.trans (b2.mono (Nat.le_of_lt HSS.out.1.gb.lt))
        have s0 : w2.cell? ⟨sb, 0, none⟩ = some (.slice (some ⟨q, 0, none⟩) N N) := hS2.sbk.cell 0
        have s1 : w2.cell? ⟨q, j, none⟩ = some (.bool y) := by
          obtain ⟨hj, e⟩ := List.getElem?_eq_some_iff.1 HJ.out
          have := hS2.sn.cell hj
          rw [e] at this
          exact this
        have s2 := hS2.sn.free j
        have hS2q : q < w2.heap.size := hS2.sn.ge.2
        have H2 := Lib.hid (And.intro hS2 hB2)
        clear b2 HQ hS2 hB2
        cases y with
        | true =>
          have HE := Lib.hid (HST.out.trans (if_pos rfl))
          go_wp2_with fail
          go_roundw
          case rel => exact ⟨k + 1, t, by go_num, by omega, Lib.hid (by rw [HNX.out.1, HE.out]), H2.out⟩
          case measure => (first | (simp [intOf]; done) | (simp [intOf]; omega))
        | false =>
          have HE := Lib.hid (HST.out.trans (if_neg (by simp)))
          obtain ⟨v, k1, k2⟩ := H2.out.1.wk
          obtain ⟨VA, vc, rfl, hvc⟩ := k2.form
          have hwl : t.2.length ≤ 4000000 := by have := HNX.out.2.2; unfold leftG at this; omega
          obtain ⟨vl, hvl⟩ : ∃ vl, vl = t.2.length := ⟨_, rfl⟩
          rw [← hvl] at k1 k2
          have hord := H2.out.1.ord
          have k10 : w2.cell? ⟨wb, 0, none⟩ = some (.slice VA vl vc) := k1.cell 0
          have hne : ¬ q = wb := by omega
          have hne2 : ¬ wb = q := by omega
          have hwbs := k1.lt
          have hsz : (w2.setCell ⟨q, j, none⟩ (.bool true)).heap.size = w2.heap.size := by simp [World.setCell]
          have hbs : Below s w (w2.setCell ⟨q, j, none⟩ (.bool true)) := H2.out.2.setCell (p := ⟨q, j, none⟩) (show s ≤ q by omega) _
          have K1 := Lib.hid (show Bk (w2.setCell ⟨q, j, none⟩ (.bool true)) wb 49 #[.slice VA vl vc] ∧ Ow iV 3 (w2.setCell ⟨q, j, none⟩ (.bool true)) (wb + 1) (.slice VA vl vc) t.2 ∧ Bk (w2.setCell ⟨q, j, none⟩ (.bool true)) s 25 #[.slice A1 N c1, .slice A2 M c2] ∧ Bk (w2.setCell ⟨q, j, none⟩ (.bool true)) sb 98 #[.slice (some ⟨q, 0, none⟩) N N] ∧ Ow tV 4 (w2.setCell ⟨q, j, none⟩ (.bool true)) (s + 1) (.slice (some ⟨q, 0, none⟩) N N) (t.1.set j true) ∧ Below s w (w2.setCell ⟨q, j, none⟩ (.bool true)) ∧ (w2.setCell ⟨q, j, none⟩ (.bool true)).heap.size = w2.heap.size from by
            refine ⟨k1.far (p := ⟨q, j, none⟩) (show wb ≠ q by omega) _, k2.kept (grown_set w2 ⟨q, j, none⟩ (.bool true)) (by
              cases e : (Value.slice VA vl vc).ownBlock with
              | none => exact .inl rfl
              | some c => exact .inr (fun e2 => by injection e2 with e2; have e3 : c = q := e2; have := (k2.lt c e).1; omega)), H2.out.1.gb.far (p := ⟨q, j, none⟩) (show s ≠ q by omega) _, H2.out.1.sbk.far (p := ⟨q, j, none⟩) (show sb ≠ q by omega) _, ?_, hbs, hsz⟩
            obtain ⟨hj, _⟩ := List.getElem?_eq_some_iff.1 HJ.out
            exact H2.out.1.sn.set hj true)
          have HO := Lib.hid (And.intro hord hwbs)
          have HV := Lib.hid (And.intro hvl hwl)
          clear k1 k2 hvl hvc hbs hsz hord hwl
          go_wp2_with (at_builtin; refine wp_app oneI iV_one rfl (.tmp 28) (.tmp 30) rfl (wb + 1) _ t.2 rfl (K1.out.2.1.alloc _) (some ⟨w2.heap.size, 0, none⟩) 1 1 [(j : Int) + 1] rfl rfl (w2.heap.size + 1) (rd1_newS _ _ _ _ _) (by have := HV.out.2; simp; omega) (by decide) (by have := K1.out.2.2.2.2.2.2; have := HO.out.2; simp; omega) ?_; intro v5 w5 ho5 hb5 hg5 _; obtain ⟨VA5, vc5, rfl, _⟩ := ho5.form; have HL5 := Lib.hid (show (t.2 ++ [(j : Int) + 1]).length = vl + 1 from by rw [List.length_append, ← HV.out.1]; rfl); obtain ⟨n5, hn5⟩ : ∃ n, n = (t.2 ++ [(j : Int) + 1]).length := ⟨_, rfl⟩; rw [← hn5] at ho5 ⊢; clear hn5; have H5 := Lib.hid (And.intro ho5 hb5); have m5 := (K1.out.1.alloc (.cells #[.int .i64 ((j : Int) + 1)] 3)).below hb5 (by omega); have m50 := m5.cell 0; have m51 := m5.free 0; have M5 := Lib.hid m5; clear ho5 hb5 hg5 m5)
          have H6 := Lib.hid (show RS (w5.setCell ⟨wb, 0, none⟩ (.slice VA5 n5 vc5)) s q sb wb (.slice A1 N c1) (.slice A2 M c2) N (t.1.set j true) (t.2 ++ [(j : Int) + 1]) ∧ Below s w (w5.setCell ⟨wb, 0, none⟩ (.slice VA5 n5 vc5)) from by
            obtain ⟨o1, o2⟩ := HO.out
            obtain ⟨f1, f2, f3, f4, f5, f6, f7⟩ := K1.out
            obtain ⟨g1, g2⟩ := H5.out
            refine ⟨⟨((f3.alloc _).below g2 (by omega)).far (p := ⟨wb, 0, none⟩) (show s ≠ wb by omega) _, ((f4.alloc _).below g2 (by omega)).far (p := ⟨wb, 0, none⟩) (show sb ≠ wb by omega) _, ?_, ⟨_, M5.out.set 0 _, ?_⟩, o1⟩, ?_⟩
            · have h1 := f5.alloc (.cells #[.int .i64 ((j : Int) + 1)] 3)
              have e : ∀ k, (Value.slice (some ⟨q, 0, none⟩) N N).ownBlock = some k → k = q := fun k e => by injection e with e; exact e.symm
              obtain ⟨g3, g4⟩ := h1
              refine ⟨g3, ?_⟩
              rcases g4 with ⟨e1, _⟩ | ⟨gg, cap, cur, e1, r1, r2, r3⟩
              · cases e1
              · have e2 : gg = q := by injection e1 with e1; injection e1 with e1; injection e1 with e1; exact e1.symm
                subst e2
                refine .inr ⟨gg, cap, cur, e1, r1, ?_, r3⟩
                exact (Below.heap_setCell w5 ⟨wb, 0, none⟩ _ gg (show gg ≠ wb by omega)).trans ((g2.block gg (by omega)).trans r2)
            · exact g1.kept (grown_set w5 ⟨wb, 0, none⟩ _) (by
                cases e : (Value.slice VA5 n5 vc5).ownBlock with
                | none => exact .inl rfl
                | some c => exact .inr (fun e2 => by injection e2 with e2; have e3 : c = wb := e2; have := (g1.lt c e).1; omega))
            · exact ((f6.alloc (by omega) _).trans (g2.mono (by omega))).setCell (p := ⟨wb, 0, none⟩) (show s ≤ wb by omega) _)
          clear m50 m51 M5 H5 K1
          go_roundw
          case rel => exact ⟨k + 1, _, by go_num, by omega, Lib.hid (by rw [HNX.out.1, HE.out]), H6.out⟩
          case measure => (first | (simp [intOf]; done) | (simp [intOf]; omega))
    · have hfin : t = ps.foldl (stepS N) st := by
        rw [ht.out, List.take_of_length_le (by rw [← HLn.out]; omega)]
      have HF := Lib.hid (And.intro hS (And.intro hB hfin))
      clear hS hB hfin ht
      go_wp2_with fail
      go_end0
      rw [← HF.out.2.2]
      exact ⟨rfl, HF.out.1, HF.out.2.1⟩
end Go.Proofs.Ytkkjnahjmomjgaa
