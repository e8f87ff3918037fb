/- Texts joined: GuG OpenZ GuI GuJ GvB RegW RegY2 RegZ. -/
import Derived.Test.YtdppnggchpchgaaDoorCb5
import Derived.Test.YtdppnggchpchgaaDoorFrame
import Derived.Test.YtdppnggchpchgaaDoorMem
import Derived.Deep.Grids
/- The reference's Trim. Conditions: lengths; pointers and roots are some node's or 0. -/
namespace Go.Proofs.YtdppnggchpchgaaDoor
set_option linter.unusedVariables false
set_option linter.unusedSimpArgs false
open Go.RowKit Go.Maps
/-- What a row of marks holds. -/
def marks (M : Nat) (l : List Int) : List Bool := (List.range M).map fun (i : Nat) => decide ((i : Int) ∈ l)
/-- What Trim works on. -/
structure TW (w W : World) (q N1 : Nat) (vn vr : Value) (seen : List Bool) (out : List Int) (v : Value) : Prop where
  gb : Bk W w.heap.size 32 #[vn, vr]
  rb : Bk W (w.heap.size + 1) 32 #[.slice none 0 0, .slice none 0 0]
  sn : Ow tV 4 W (w.heap.size + 2) (.slice (some ⟨q, 0, none⟩) N1 N1) seen
  wk : Ow iV 3 W (w.heap.size + 2) v out
  bl : Below w.heap.size w W
section
variable {w W W' : World} {q N1 : Nat} {vn vr v v' : Value} {seen : List Bool} {out : List Int}
theorem TW.below (h : TW w W q N1 vn vr seen out v) (hb : Below W.heap.size W W') : TW w W' q N1 vn vr seen out v := ⟨h.gb.below hb h.gb.lt, h.rb.below hb h.rb.lt, h.sn.below hb, h.wk.below hb, h.bl.trans (hb.mono h.bl.size)⟩
theorem TW.mark (h : TW w W q N1 vn vr seen out v) {n : Nat} (hn : n < seen.length) : TW w (W.setCell ⟨q, n, none⟩ (.bool true)) q N1 vn vr (seen.set n true) out v := by
  have hq := h.sn.ge.1
  refine ⟨h.gb.far (p := ⟨q, n, none⟩) (show w.heap.size ≠ q by omega) _, h.rb.far (p := ⟨q, n, none⟩) (show w.heap.size + 1 ≠ q by omega) _, h.sn.set hn true, h.wk.kept (grown_set W ⟨q, n, none⟩ _) ?_, h.bl.setCell (p := ⟨q, n, none⟩) (show w.heap.size ≤ q by omega) _⟩
  exact .inr (own_ne h.sn h.wk)
theorem TW.app (h : TW w W q N1 vn vr seen out v) {x : Int} (ho : Ow iV 3 W' (w.heap.size + 2) v' (out ++ [x])) (hb : Below (w.heap.size + 2) W W') (hg : W.grownBy W' v.ownBlock) : TW w W' q N1 vn vr seen (out ++ [x]) v' := by
  refine ⟨h.gb.below hb (by omega), h.rb.below hb (by omega), h.sn.kept hg (.inr (fun e => own_ne h.sn h.wk e.symm)), ho, h.bl.trans (hb.mono (by omega))⟩
theorem TW.nil (h : TW w W q N1 vn vr seen out v) : TW w W q N1 vn vr seen [] (.slice none 0 0) := ⟨h.gb, h.rb, h.sn, Ow.nil_ _ _ _ _, h.bl⟩
end
set_option maxHeartbeats 4000000
set_option maxRecDepth 100000
end Go.Proofs.YtdppnggchpchgaaDoor
/- How arguments of types []bool and []int are opened. No conditions. -/
namespace Go.Proofs.YtdppnggchpchgaaDoor
set_option linter.unusedVariables false
set_option linter.unusedSimpArgs false
open Go.ChangeShapes Go.WideShapes Go.ChangeAt Go.RowKit
def boZ (b : Bool) : Value := .bool b
def inV (k : Int) : Value := .int .i64 k
end Go.Proofs.YtdppnggchpchgaaDoor
/- GraphAny: its regions. No conditions. -/
namespace Go.Proofs.YtdppnggchpchgaaDoor
set_option linter.unusedVariables false
set_option linter.unusedSimpArgs false
open Go.RowKit Go.Maps
theorem GBx.of2 {w : World} {s E : Nat} {g : Gv} {v0 v1 : Value} (h : Bk w s E #[v0, v1]) (hg : g.At w w.heap.size) : GBx w s g v0 v1 := fun W b => ⟨(h.below b h.lt).cell 0, (h.below b h.lt).cell 1, hg.up b⟩
theorem rnamed_k {W : World} {g a : Gv} {v : Value} (hv : g.v = v) (hf : FewP g) (hn : g.r = a.r) (h : g.At W W.heap.size) : Calls Tryd.prog 19 #[v] W fun e w2 => ∃ u, e = .returned u ∧ Below W.heap.size W w2 ∧ IntsV (a.r.map (·.t)) u w2 := by
  rw [← hv, ← hn]
  refine (rnamed_c W g h hf.small).mono ?_
  rintro e w2 ⟨v, rfl, ho, b2⟩
  obtain ⟨A', c', rfl, _⟩ := ho.form
  exact ⟨_, rfl, b2, A', c', rfl, ho.rd⟩
theorem ints_k {W : World} {xs : List Int} {u v : Value} (hl : xs.length ≤ 1000) (h1 : IntsV xs u W) (h2 : IntsV xs v W) : Calls Tryd.prog 16 #[u, v] W (RetP (.bool true) W) := by
  obtain ⟨A1, c1, rfl, r1⟩ := h1
  obtain ⟨A2, c2, rfl, r2⟩ := h2
  exact ints_same W A1 A2 c1 c2 xs.length xs rfl hl r1 r2
set_option maxHeartbeats 4000000
set_option maxRecDepth 100000
end Go.Proofs.YtdppnggchpchgaaDoor
/- GraphAny: what a trimmed graph has. No conditions. -/
namespace Go.Proofs.YtdppnggchpchgaaDoor
set_option linter.unusedVariables false
set_option linter.unusedSimpArgs false
open Go.RowKit Go.Maps
end Go.Proofs.YtdppnggchpchgaaDoor
/- The reference's Walk: its order. Conditions: lengths; all pointers are some node's or 0. -/
namespace Go.Proofs.YtdppnggchpchgaaDoor
set_option linter.unusedVariables false
set_option linter.unusedSimpArgs false
open Go.RowKit Go.Maps
theorem stepW_no {N : Nat} {out : List Int} {p : Int} (h : ¬ (hasG N p = true ∧ p ∉ out)) : stepW N out p = out := by unfold stepW; rw [if_neg h]
theorem stepW_yes {N : Nat} {out : List Int} {p : Int} (h : hasG N p = true) (h2 : p ∉ out) : stepW N out p = out ++ [p] := by unfold stepW; rw [if_pos ⟨h, h2⟩]
set_option maxHeartbeats 4000000
set_option maxRecDepth 100000
theorem walk_o (w : World) (g : Gv) (hg : g.At w w.heap.size) (hs : FewP g) (hok : ∀ x ∈ g.n, ∀ p ∈ x.ps, okP g.n.length p = true) (A : Option Addr) (c : Nat) (fr : List Int) (hr : Rd iV w w.heap.size A fr) (hl : fr.length ≤ 1000) :
    Calls Tryd.prog 18 #[g.v, .slice A fr.length c] w fun e w' => ∃ v, e = .returned v ∧ Ow iV 3 w' (w.heap.size + 1) v (walkL g.n fr) ∧ Below w.heap.size w w' := by
  have HG := Lib.hid hg
  have HOk := Lib.hid hok
  have HP := Lib.hid hs.2.2.1
  have hsn := hs.1
  have HR := Lib.hid hr
  obtain ⟨GA, ca, A2, ca2, ns, rs⟩ := g
  obtain ⟨N, hN⟩ : ∃ N, N = ns.length := ⟨_, rfl⟩
  obtain ⟨M, hM⟩ : ∃ M, M = rs.length := ⟨_, rfl⟩
  obtain ⟨F, hF⟩ : ∃ F, F = fr.length := ⟨_, rfl⟩
  obtain ⟨N1, hN1⟩ : ∃ N1, N1 = N + 1 := ⟨_, rfl⟩
  have q0 : (N : Int) ≤ 60 := by rw [hN]; exact Int.ofNat_le.2 hsn
  have q1 : (F : Int) ≤ 1000 := by omega
  have HN := Lib.hid (And.intro hN (And.intro hF hN1))
  have q2 : (N : Int) + 1 = (N1 : Int) := by omega
  unfold Gv.v Gv.vn Gv.vr
  simp only at HP HOk ⊢
  rw [← hN, ← hM, ← hF]
  clear hg hs hok hsn hr hl hN hM hF hN1
  go_enter Tryd.func18, Tryd.ntmps18
  go_wp2_with (at_make; refine wp_make (f := tV) oneT rfl _ _ rfl false rfl (w.heap.size + 1) N1 _ _ _ _ rfl rfl rfl rfl (by omega) (by decide) (by simp) ?_; rintro q w2 hq ho2 hb2 _; have H2 := Lib.hid (And.intro ho2 hb2); have HQ := Lib.hid (show q = w.heap.size + 1 from by rw [hq]; simp); clear ho2 hb2 hq)
  have hS0 : WS w w2 q N1 (.slice GA N ca) (.slice A2 M ca2) (List.replicate N1 false) [] (.slice none 0 0) := by
    obtain ⟨o1, o2⟩ := H2.out
    exact ⟨(Bk.new w 32 #[.slice GA N ca, .slice A2 M ca2]).below o2 (by omega), o1, Ow.nil_ _ _ _ _, ((Below.refl _ _).alloc (Nat.le_refl _) _).trans (o2.mono (by omega))⟩
  have HS0 := Lib.hid hS0
  clear hS0 H2
  go_loopw [6, 7] (fun o i W => ∃ (k : Nat) (seen : List Bool) (out : List Int), i = .int .i64 k ∧ k ≤ F ∧ Hid (WS w W q N1 (.slice GA N ca) (.slice A2 M ca2) seen out o) ∧ Hid (Wk ns fr seen out ∧ out = feedW ns.length [] (fr.take k))) (fun _ i _ => F - (Go.RowKit.intOf i).toNat)
  case atStart => exact ⟨0, _, [], rfl, Nat.zero_le _, Lib.hid HS0.out, Lib.hid ⟨by rw [HN.out.2.2, HN.out.1]; exact Wk.start _ _, rfl⟩⟩
  case round =>
    obtain ⟨k, seen, out, rfl, hk, hS, hW⟩ := hrel
    by_cases hlt : k < F
    · have hkf : k < fr.length := by rw [← HN.out.2.1]; exact hlt
      obtain ⟨x, hx⟩ : ∃ x, x = fr[k] := ⟨_, rfl⟩
      obtain ⟨a, rfl, ha, hca⟩ := (HR.out.below hS.out.bl) k hkf
      rw [← hx] at hca
      unfold iV at hca
      have HT := Lib.hid (show fr.take (k + 1) = fr.take k ++ [x] from by rw [take_snoc fr k hkf, hx])
      have HMem := Lib.hid (show x ∈ fr from by rw [hx]; exact List.getElem_mem _)
      have p1 : (0 : Int) ≤ (k : Int) := by omega
      have p2 : (k : Int) < (F : Int) := by omega
      have HCell := Lib.hid (fun (W : World) (b : Below wr.heap.size wr W) => show W.cell? (a.add k) = some (.int .i64 x) ∧ W.cell? ⟨w.heap.size, 0, none⟩ = some (.slice GA N ca) from ⟨(b.cell (cell_lt hca)).trans hca, (hS.out.gb.below b hS.out.gb.lt).cell 0⟩)
      clear hx ha hca hkf
      by_cases hx1 : x < 1
      · go_wp2_with fail
        refine wka_r _ _ _ a F c k x (Lib.hid (fun W b => (HCell.out W b).1)) hx1 p1 p2 rfl rfl rfl ?_
        intro vals w4 hG h46
        unfold IsV at h46
        simp only [putD, Act.put, List.setIfInBounds_toArray, List.set_cons_zero, List.set_cons_succ, h46]
        have HS4 := Lib.hid (hS.out.below hG)
        clear hG h46
        go_wp2_with fail
        go_roundw
        case rel => exact ⟨k + 1, seen, out, by go_num, by omega, Lib.hid HS4.out, Lib.hid ⟨hW.out.1, by rw [HT.out, feedW_snoc, ← hW.out.2, stepW_no (fun e => by have := hasG_iff.1 e.1; omega)]⟩⟩
        case measure => simp [Go.RowKit.intOf]; omega
      · have hx2 : (1 : Int) ≤ x := by omega
        by_cases hx3 : (N : Int) < x
        · go_wp2_with fail
          refine wkb_r _ _ _ a F c k w.heap.size N ca GA x HCell hx2 hx3 p1 p2 rfl rfl rfl rfl ?_
          intro vals w4 hG h46
          unfold IsV at h46
          simp only [putD, Act.put, List.setIfInBounds_toArray, List.set_cons_zero, List.set_cons_succ, h46]
          have HS4 := Lib.hid (hS.out.below hG)
          clear hG h46
          go_wp2_with fail
          go_roundw
          case rel => exact ⟨k + 1, seen, out, by go_num, by omega, Lib.hid HS4.out, Lib.hid ⟨hW.out.1, by rw [HT.out, feedW_snoc, ← hW.out.2, stepW_no (fun e => by have := hasG_iff.1 e.1; rw [← HN.out.1] at this; omega)]⟩⟩
          case measure => simp [Go.RowKit.intOf]; omega
        · obtain ⟨n, rfl⟩ : ∃ n : Nat, x = (n : Int) := ⟨x.toNat, by omega⟩
          have hx4 : (n : Int) ≤ (N : Int) := by omega
          have hx5 : (n : Int) < (N1 : Int) := by omega
          have hnn : n ≤ ns.length := by rw [← HN.out.1]; omega
          obtain ⟨y, hy, hyi⟩ := hW.out.1.get hnn
          have HY := Lib.hid (And.intro hy (And.intro hyi hnn))
          have hcy : wr.cell? ⟨q, n, none⟩ = some (.bool y) := by
            obtain ⟨h, e⟩ := List.getElem?_eq_some_iff.1 hy
            rw [← e]; exact hS.out.sn.cell h
          have HC2 := Lib.hid (fun (W : World) (b : Below wr.heap.size wr W) => show W.cell? (a.add k) = some (.int .i64 n) ∧ W.cell? ⟨w.heap.size, 0, none⟩ = some (.slice GA N ca) ∧ W.cell? ⟨q, n, none⟩ = some (.bool y) from ⟨(HCell.out W b).1, (HCell.out W b).2, (b.cell (cell_lt hcy)).trans hcy⟩)
          clear hx1 hx3 hcy hy hyi hnn
          cases y with
          | true =>
            go_wp2_with fail
            refine wkc_r _ _ _ a F c k w.heap.size N ca q n N1 GA true HC2 hx2 hx4 hx5 p1 p2 rfl rfl rfl rfl rfl ?_
            intro vals w4 hG h46
            unfold IsV at h46
            simp only [putD, Act.put, List.setIfInBounds_toArray, List.set_cons_zero, List.set_cons_succ, h46]
            have HS4 := Lib.hid (hS.out.below hG)
            clear hG h46
            go_wp2_with fail
            go_roundw
            case rel => exact ⟨k + 1, seen, out, by go_num, by omega, Lib.hid HS4.out, Lib.hid ⟨hW.out.1, by rw [HT.out, feedW_snoc, ← hW.out.2, stepW_no (fun e => e.2 (HY.out.2.1.1 (by first | rfl | trivial)))]⟩⟩
            case measure => simp [Go.RowKit.intOf]; omega
          | false =>
            go_wp2_with fail
            refine wkc_r _ _ _ a F c k w.heap.size N ca q n N1 GA false HC2 hx2 hx4 hx5 p1 p2 rfl rfl rfl rfl rfl ?_
            intro vals w4 hG h46
            unfold IsV at h46
            simp only [putD, Act.put, List.setIfInBounds_toArray, List.set_cons_zero, List.set_cons_succ, h46]
            have HS4 := Lib.hid (hS.out.below hG)
            have hnl : n < seen.length := by rw [hW.out.1.len]; have := HY.out.2.2; omega
            have HS5 := Lib.hid (HS4.out.mark hnl)
            have hca4 := (HC2.out w4 hG).1
            have hq4 := (HC2.out w4 hG).2.2
            have hf4 := HS4.out.sn.free n
            have hca5 : (w4.setCell ⟨q, n, none⟩ (.bool true)).cell? (a.add k) = some (.int .i64 n) := by
              obtain ⟨ad, e, hab, h⟩ := (HR.out.below HS5.out.bl) k (by rw [← HN.out.2.1]; exact hlt)
              injection e with e
              subst e
              have e2 : fr[k]'(by rw [← HN.out.2.1]; exact hlt) = (n : Int) := by
                have h0 := hca4
                obtain ⟨ad, e, _, h2⟩ := (HR.out.below HS4.out.bl) k (by rw [← HN.out.2.1]; exact hlt)
                injection e with e
                subst e
                rw [h2] at h0
                unfold iV at h0
                injection h0 with h0
                injection h0
              rw [h, e2]; rfl
            obtain ⟨VA, m, vc, rfl⟩ : ∃ A m n, u6 = Value.slice A m n := by
              obtain ⟨A, c, e, _⟩ := HS4.out.wk.form
              exact ⟨A, _, c, e⟩
            have hml : out.length + 1 ≤ 4294967296 := by have := hW.out.1.le; have h3 := HN.out.1; omega
            have HRd := Lib.hid (show Rd iV ((w4.setCell ⟨q, n, none⟩ (.bool true)).alloc (.cells #[.int .i64 n] 3)) (w4.heap.size + 1) (some ⟨w4.heap.size, 0, none⟩) [(n : Int)] from by
              have := rd1_new (f := iV) (w := w4.setCell ⟨q, n, none⟩ (.bool true)) (E := 3) (y := (n : Int)) (u := .int .i64 n) rfl
              simpa [World.setCell] using this)
            have HW6 := Lib.hid (show Wk ns fr (seen.set n true) (out ++ [(n : Int)]) from hW.out.1.push HY.out.2.2 HY.out.1 (.base _ HMem.out (hasG_iff.2 (by have := HY.out.2.2; omega))))
            have hsz5 : w.heap.size + 1 ≤ ((w4.setCell ⟨q, n, none⟩ (.bool true)).alloc (.cells #[.int .i64 n] 3)).heap.size := Nat.le_trans (by have := HS5.out.sn.lt q rfl; omega : w.heap.size + 1 ≤ (w4.setCell ⟨q, n, none⟩ (.bool true)).heap.size) (Gw.alloc _ _).size
            have HSz := Lib.hid hsz5
            clear hG h46 hsz5
            go_wp2_with (at_builtin; refine wp_app oneI iV_one rfl (.tmp 53) (.tmp 58) rfl (w.heap.size + 1) _ out rfl (HS5.out.wk.alloc _) (some ⟨w4.heap.size, 0, none⟩) 1 1 [(n : Int)] rfl rfl (w4.heap.size + 1) HRd.out hml (by decide) HSz.out ?_; intro v5 w5 ho5 hb5 hg5 _; have HS6 := Lib.hid ((HS5.out.below (Gw.alloc _ _)).app ho5 hb5 hg5); clear ho5 hb5 hg5)
            clear hca4 hq4 hf4 hca5
            go_roundw
            case rel => exact ⟨k + 1, _, _, by go_num, by omega, Lib.hid HS6.out, Lib.hid ⟨HW6.out, by rw [HT.out, feedW_snoc, ← hW.out.2, stepW_yes (hasG_iff.2 (by have := HY.out.2.2; omega)) (fun e => by have := HY.out.2.1.2 e; cases this)]⟩⟩
            case measure => simp [Go.RowKit.intOf]; omega
    · have hkF : k = F := by omega
      have HF := Lib.hid (show out = feedW ns.length [] fr from by
        have := hW.out.2
        rwa [hkF, List.take_of_length_le (by rw [← HN.out.2.1]; exact Nat.le_refl _)] at this)
      have HW1 := Lib.hid hW.out.1
      clear hW hkF
      go_wp2_with fail
      clear hlt hk
      obtain ⟨W0, hW0⟩ : ∃ W0, W0 = wr := ⟨_, rfl⟩
      rw [← hW0] at hS ⊢
      clear hW0
      go_loopw [6, 8] (fun o i W => ∃ (k : Nat) (seen : List Bool) (out : List Int), i = .int .i64 k ∧ Hid (k ≤ out.length) ∧ Hid (WS w W q N1 (.slice GA N ca) (.slice A2 M ca2) seen out o) ∧ Hid (Wk ns fr seen out ∧ out = iterW ns (feedW ns.length [] fr) k)) (fun _ i _ => N1 - (Go.RowKit.intOf i).toNat)
      case atStart => exact ⟨0, seen, out, rfl, Lib.hid (Nat.zero_le _), Lib.hid hS.out, Lib.hid ⟨HW1.out, HF.out⟩⟩
      case round =>
        clear hS
        obtain ⟨k, seen, out, rfl, hk, hS, hW⟩ := hrel
        obtain ⟨VA, m, vc, rfl, hm⟩ : ∃ A m n, u6 = Value.slice A m n ∧ m = out.length := by
          obtain ⟨A, c, e, _⟩ := hS.out.wk.form
          exact ⟨A, _, c, e, rfl⟩
        have hmN : m ≤ N1 := by have := hW.out.1.le; have h1 := HN.out.1; have h2 := HN.out.2.2; omega
        have HM := Lib.hid hm
        have hkm := hk.out
        rw [← hm] at hkm
        by_cases hlt : k < m
        · have hko : k < out.length := by rw [← hm]; exact hlt
          obtain ⟨p, hp⟩ : ∃ p, p = out[k] := ⟨_, rfl⟩
          have hpm : p ∈ out := by rw [hp]; exact List.getElem_mem _
          have hrp := hW.out.1.ok p hpm
          have hpg := hasG_iff.1 hrp.has
          obtain ⟨n, rfl, hnn⟩ : ∃ n : Nat, p = (n : Int) + 1 ∧ n < ns.length := ⟨(p - 1).toNat, by omega, by omega⟩
          obtain ⟨x, hx⟩ : ∃ x, x = ns[n] := ⟨_, rfl⟩
          have hpx : ptrsG ns ((n : Int) + 1) = x.ps := by
            unfold ptrsG
            rw [show ((n : Int) + 1 - 1).toNat = n by omega, List.getElem?_eq_getElem hnn, ← hx]
          obtain ⟨ad, rfl, hc2, hxa⟩ : ∃ ad, GA = some ad ∧ wr.cell? (ad.add (n * 2)) = some x.vp ∧ x.At w w.heap.size := by
            obtain ⟨ad, e, _, h1, h2, h3⟩ := (HG.out.n.below hS.out.bl) n hnn
            obtain ⟨_, _, _, _, _, h4⟩ := HG.out.n n hnn
            exact ⟨ad, e, by rw [hx]; exact h1, by rw [hx]; exact h4⟩
          obtain ⟨b, e, hbc, _, _, _⟩ := ow_spot hS.out.wk hko
          subst e
          rw [← hp] at hbc
          unfold iV at hbc
          have hokx := HOk.out x (by rw [hx]; exact List.getElem_mem _)
          have hszx := (HP.out x (by rw [hx]; exact List.getElem_mem _)).1
          have HRch := Lib.hid (fun (q : Int) (hq : q ∈ x.ps) (hh : hasG ns.length q = true) => Rch.step (fr := fr) ((n : Int) + 1) q hrp (by rw [hpx]; exact hq) hh)
          have HXa := Lib.hid hxa
          have HPx := Lib.hid (And.intro hpx (show out[k]? = some ((n : Int) + 1) from by rw [List.getElem?_eq_getElem hko, ← hp]))
          obtain ⟨xA, xc, xD, xd, xps, xbs⟩ := x
          unfold Nv.vp at hc2
          simp only at hc2 hokx hszx HRch HPx
          obtain ⟨xn, hxn⟩ : ∃ n, n = xps.length := ⟨_, rfl⟩
          rw [← hxn] at hc2 hszx
          have HX := Lib.hid hxn
          have HOx := Lib.hid hokx
          have HC := Lib.hid (fun (W : World) (bb : Below wr.heap.size wr W) => show W.cell? ⟨w.heap.size, 0, none⟩ = some (.slice (some ad) N ca) ∧ W.cell? ((⟨b, 0, none⟩ : Addr).add k) = some (.int .i64 ((n : Int) + 1)) ∧ W.cell? (ad.add (n * 2)) = some (.slice xA xn xc) from ⟨(hS.out.gb.below bb hS.out.gb.lt).cell 0, by rw [addr_at]; exact (bb.cell (cell_lt hbc)).trans hbc, (bb.cell (cell_lt hc2)).trans hc2⟩)
          have p0 : (0 : Int) ≤ (n : Int) := by omega
          have p1 : (0 : Int) ≤ (k : Int) := by omega
          have p2 : (k : Int) < (m : Int) := by omega
          have p3 : (n : Int) < (N : Int) := by have := HN.out.1; omega
          have q3 : (xn : Int) ≤ 70 := by omega
          clear hp hpm hrp hpg hx hpx hxa hbc hc2 hokx hszx hxn hko hm
          go_wp2_with fail
          refine wkd_r _ _ _ w.heap.size N ca k m vc n xn xc none xA ⟨b, 0, none⟩ ad HC p3 q0 p0 p1 p2 rfl rfl rfl rfl ?_
          intro vals w4 hG h9
          unfold IsV at h9
          simp only [putD, Act.put, List.setIfInBounds_toArray, List.set_cons_zero, List.set_cons_succ, h9]
          have HS4 := Lib.hid (hS.out.below hG)
          clear hG h9 HC hS
          go_wp2_with fail
          have HW4 := Lib.hid (And.intro hW.out hk.out)
          have HIt := Lib.hid (show (iterW ns (feedW ns.length [] fr) k)[k]? = some ((n : Int) + 1) from by rw [← HW4.out.1.2]; exact HPx.out.2)
          clear hW hk
          go_loopw [6, 10] (fun o i W => ∃ (j : Nat) (seen : List Bool) (out : List Int), i = .int .i64 j ∧ j ≤ xn ∧ Hid (WS w W q N1 (.slice (some ad) N ca) (.slice A2 M ca2) seen out o) ∧ Hid (k < out.length ∧ out[k]? = some ((n : Int) + 1) ∧ Wk ns fr seen out ∧ out = feedW ns.length (iterW ns (feedW ns.length [] fr) k) (xps.take j))) (fun _ i _ => xn - (Go.RowKit.intOf i).toNat)
          case atStart => exact ⟨0, seen, out, rfl, Nat.zero_le _, Lib.hid HS4.out, Lib.hid ⟨by rw [← HM.out]; exact hlt, HPx.out.2, HW4.out.1.1, HW4.out.1.2⟩⟩
          case round =>
            obtain ⟨j, seen, out, rfl, hj, hS, hW⟩ := hrel
            obtain ⟨VA, m, vc, rfl⟩ : ∃ A m n, u6 = Value.slice A m n := by
              obtain ⟨A, c, e, _⟩ := hS.out.wk.form
              exact ⟨A, _, c, e⟩
            by_cases hlj : j < xn
            · have hjl : j < xps.length := by rw [← HX.out]; exact hlj
              obtain ⟨x, hx⟩ : ∃ x, x = xps[j] := ⟨_, rfl⟩
              obtain ⟨a, rfl, ha, hca⟩ := (HXa.out.p.below hS.out.bl) j hjl
              rw [← hx] at hca
              unfold iV at hca
              have hxm : x ∈ xps := by rw [hx]; exact List.getElem_mem _
              have hxo := okP_iff.1 (HOx.out x hxm)
              have HT := Lib.hid (show xps.take (j + 1) = xps.take j ++ [x] from by rw [take_snoc xps j hjl, hx])
              have p4 : (0 : Int) ≤ (j : Int) := by omega
              have p5 : (j : Int) < (xn : Int) := by omega
              have HXm := Lib.hid hxm
              have HCa := Lib.hid (fun (W : World) (b : Below w.heap.size w W) => show W.cell? (a.add j) = some (.int .i64 x) from by
                obtain ⟨ad, e, _, h⟩ := (HXa.out.p.below b) j hjl
                have e : some a = some ad := e
                injection e with e
                subst e
                rw [h, ← hx]; rfl)
              clear hx ha hxm hjl
              by_cases hx0 : x = 0
              · subst hx0
                go_wp2_with fail
                go_roundw
                case rel =>
                  first
                  | exact ⟨j + 1, seen, out, by go_num, by omega, Lib.hid hS.out, Lib.hid ⟨hW.out.1, hW.out.2.1, hW.out.2.2.1, by rw [HT.out, feedW_snoc, ← hW.out.2.2.2, stepW_no (fun e => by have := hasG_iff.1 e.1; omega)]⟩⟩
                  | exact ⟨j + 1, by go_num, by omega, seen, out, Lib.hid hS.out, Lib.hid ⟨hW.out.1, hW.out.2.1, hW.out.2.2.1, by rw [HT.out, feedW_snoc, ← hW.out.2.2.2, stepW_no (fun e => by have := hasG_iff.1 e.1; omega)]⟩⟩
                case measure => simp [Go.RowKit.intOf]; omega
              · obtain ⟨n', rfl⟩ : ∃ n : Nat, x = (n : Int) := ⟨x.toNat, by omega⟩
                obtain ⟨n0, hn0⟩ : ∃ n0, n0 = n := ⟨_, rfl⟩
                rw [← hn0] at hW HPx ⊢
                clear hn0
                obtain ⟨n, hn9⟩ : ∃ n, n = n' := ⟨_, rfl⟩
                subst hn9
                have hnn : n ≤ ns.length := by omega
                have hx5 : (n : Int) < (N1 : Int) := by have := HN.out.1; have := HN.out.2.2; omega
                have hn0 : (0 : Int) ≤ (n : Int) := by omega
                obtain ⟨y, hy, hyi⟩ := hW.out.2.2.1.get hnn
                have HY := Lib.hid (And.intro hy (And.intro hyi hnn))
                have hcy : wr.cell? ⟨q, n, none⟩ = some (.bool y) := by
                  obtain ⟨h, e⟩ := List.getElem?_eq_some_iff.1 hy
                  rw [← e]; exact hS.out.sn.cell h
                have HN0 := Lib.hid (show 1 ≤ n from by omega)
                clear hxo hy hyi hnn
                cases y with
                | true =>
                  go_wp2_with fail
                  go_roundw
                  case rel =>
                    first
                    | exact ⟨j + 1, seen, out, by go_num, by omega, Lib.hid hS.out, Lib.hid ⟨hW.out.1, hW.out.2.1, hW.out.2.2.1, by rw [HT.out, feedW_snoc, ← hW.out.2.2.2, stepW_no (fun e => e.2 (HY.out.2.1.1 (by first | rfl | trivial)))]⟩⟩
                    | exact ⟨j + 1, by go_num, by omega, seen, out, Lib.hid hS.out, Lib.hid ⟨hW.out.1, hW.out.2.1, hW.out.2.2.1, by rw [HT.out, feedW_snoc, ← hW.out.2.2.2, stepW_no (fun e => e.2 (HY.out.2.1.1 (by first | rfl | trivial)))]⟩⟩
                  case measure => simp [Go.RowKit.intOf]; omega
                | false =>
                  have hnl : n < seen.length := by rw [hW.out.2.2.1.len]; have := HY.out.2.2; omega
                  have HS5 := Lib.hid (hS.out.mark hnl)
                  have hf4 := hS.out.sn.free n
                  have hca5 : (wr.setCell ⟨q, n, none⟩ (.bool true)).cell? (a.add j) = some (.int .i64 n) := HCa.out _ HS5.out.bl
                  have hml : out.length + 1 ≤ 4294967296 := by have := hW.out.2.2.1.le; have h3 := HN.out.1; omega
                  have HRd := Lib.hid (show Rd iV ((wr.setCell ⟨q, n, none⟩ (.bool true)).alloc (.cells #[.int .i64 n] 3)) (wr.heap.size + 1) (some ⟨wr.heap.size, 0, none⟩) [(n : Int)] from by
                    have := rd1_new (f := iV) (w := wr.setCell ⟨q, n, none⟩ (.bool true)) (E := 3) (y := (n : Int)) (u := .int .i64 n) rfl
                    simpa [World.setCell] using this)
                  have hgn : hasG ns.length (n : Int) = true := hasG_iff.2 (by have := HY.out.2.2; have := HN0.out; omega)
                  have HW6 := Lib.hid (show Wk ns fr (seen.set n true) (out ++ [(n : Int)]) from hW.out.2.2.1.push HY.out.2.2 HY.out.1 (HRch.out _ HXm.out hgn))
                  have HSz := Lib.hid (show w.heap.size + 1 ≤ ((wr.setCell ⟨q, n, none⟩ (.bool true)).alloc (.cells #[.int .i64 n] 3)).heap.size from Nat.le_trans (by have := HS5.out.sn.lt q rfl; omega : w.heap.size + 1 ≤ (wr.setCell ⟨q, n, none⟩ (.bool true)).heap.size) (Gw.alloc _ _).size)
                  clear hgn
                  go_wp2_with (at_builtin; refine wp_app oneI iV_one rfl (.tmp 103) (.tmp 108) rfl (w.heap.size + 1) _ out rfl (HS5.out.wk.alloc _) (some ⟨wr.heap.size, 0, none⟩) 1 1 [(n : Int)] rfl rfl (wr.heap.size + 1) HRd.out hml (by decide) HSz.out ?_; intro v5 w5 ho5 hb5 hg5 _; have HS6 := Lib.hid ((HS5.out.below (Gw.alloc _ _)).app ho5 hb5 hg5); clear ho5 hb5 hg5)
                  have X : ∃ (j' : Nat) (seen' : List Bool) (out' : List Int), (Value.int .i64 ((j : Int) + 1)) = .int .i64 j' ∧ j' ≤ xn ∧ Hid (WS w w5 q N1 (.slice (some ad) N ca) (.slice A2 M ca2) seen' out' v5) ∧ Hid (k < out'.length ∧ out'[k]? = some ((n0 : Int) + 1) ∧ Wk ns fr seen' out' ∧ out' = feedW ns.length (iterW ns (feedW ns.length [] fr) k) (xps.take j')) := ⟨j + 1, _, _, by go_num, by omega, Lib.hid HS6.out, Lib.hid ⟨by rw [List.length_append]; have := hW.out.1; omega, by rw [List.getElem?_append_left hW.out.1]; exact hW.out.2.1, HW6.out, by rw [HT.out, feedW_snoc, ← hW.out.2.2.2, stepW_yes (hasG_iff.2 (by have := HY.out.2.2; have := HN0.out; omega)) (fun e => by have := HY.out.2.1.2 e; cases this)]⟩⟩
                  clear hca hf4 hca5 hcy
                  go_roundw
                  case rel => first | exact X | exact ⟨_, _, _, _, _, _, _, _, _, _, _, _, _, _, _, _, _, _, _, _, _, _, _, _, _, _, _, _, _, _, _, _, _, _, _, _, X, rfl⟩
                  case measure => simp [Go.RowKit.intOf]; omega
            · have hjx : j = xn := by omega
              have HK := Lib.hid (show out = iterW ns (feedW ns.length [] fr) (k + 1) from by
                have h := hW.out.2.2.2
                rw [hjx, List.take_of_length_le (by rw [← HX.out]; exact Nat.le_refl _)] at h
                rw [iterW_some HIt.out, HPx.out.1]
                exact h)
              clear hjx
              go_wp2_with fail
              go_roundw
              case rel => exact ⟨k + 1, seen, out, by go_num, Lib.hid (by have := hW.out.1; omega), Lib.hid hS.out, Lib.hid ⟨hW.out.2.2.1, HK.out⟩⟩
              case measure => have := HM.out; simp [Go.RowKit.intOf]; omega
        · have hkm2 : k = out.length := by rw [← hm]; omega
          have HD := Lib.hid (show out = walkL ns fr from walkL_of hW.out.2 (by omega) (by have := hW.out.1.le; omega))
          have HSw := Lib.hid (show Ow iV 3 wr (w.heap.size + 1) (.slice VA m vc) (walkL ns fr) from by rw [← HD.out]; exact hS.out.wk)
          clear hkm2 hkm
          go_wp2_with fail
          go_ret
          exact ⟨_, rfl, HSw.out, hS.out.bl⟩
end Go.Proofs.YtdppnggchpchgaaDoor
/- A region whose operations are loads and reckonings, which float, and some others (calls, appends) that wait for each other in part: the floating ones have known values, the others are straight code in each order that they may have. No conditions. -/
namespace Go.Proofs.YtdppnggchpchgaaDoor
set_option linter.unusedVariables false
set_option linter.unusedSimpArgs false
open Go.RowKit
section
variable {P : Program} {ops : Array Oper} {Q : Exit → Act → World → Prop} {a0 : Act} {w0 : World}
/-- Those of rest that wait for none of rest may come next. -/
def SpineS (P : Program) (ops : Array Oper) (Q : Exit → Act → World → Prop) (W : World → Prop) : Nat → List Nat → Act → World → Prop
  | 0, _, a, w => Q .normal a w
  | n + 1, rest, a, w => ∀ i ∈ rest, (rest.all fun j => !waitsB ops i j) = true → ∃ o, ops[i]? = some o ∧ o.guard = none ∧ Oper.wp P o a w (fun a' w' => a'.defers = a.defers ∧ W w' ∧ SpineS P ops Q W n (rest.erase i) a' w') NoQ
def setB (ops : Array Oper) (sp fl : List Nat) : Bool :=
  ((List.range ops.size).all fun i => sp.contains i || fl.contains i) && (fl.all fun j => !sp.contains j && decide (j < ops.size) && ((ops[j]?).bind (·.guard)).isNone && slotsB ops fl j) && (sp.all fun i => decide (i < ops.size)) && decide (sp.Nodup) &&
  (fl.all fun i => (operandsOf ops i).all fun t => (fl.any fun j => waitsB ops i j && dstOf ops j == some t) || ((fl.all fun j => dstOf ops j != some t) && sp.all fun j => dstOf ops j != some t || waitsB ops j i)) &&
  (sp.all fun i => (operandsOf ops i).all fun t => fl.all fun j => dstOf ops j != some t || waitsB ops i j)
/-- One of the row, as straight code. -/
theorem set_list {i n : Nat} {is : List Nat} {W : World → Prop} {d : Option Tmp} {op : Op} {type : TypeId} {a : Act} {w : World} (ho : (ops[i]?).map (fun o => (o.op, o.type)) = some (op, type)) (hdo : (ops[i]?).map (·.dst) = some d) (hg : (ops[i]?).bind (·.guard) = none)
    (h : wpList P #[{ dst := d, op, type, pos := "", after := #[], guard := none }] (SpineQ a.defers W (SpineS P ops Q W n is)) [{ dst := d, op, type, pos := "", after := #[], guard := none }] a w) : ∃ o, ops[i]? = some o ∧ o.guard = none ∧ Oper.wp P o a w (fun a' w' => a'.defers = a.defers ∧ W w' ∧ SpineS P ops Q W n is a' w') NoQ := by
  cases hi : ops[i]? with
  | none => rw [hi] at ho; cases ho
  | some o =>
    rw [hi] at ho hdo hg
    obtain ⟨dst, op', type', pos, after, guard⟩ := o
    simp only [Option.map_some, Option.some.injEq, Prod.mk.injEq] at ho hdo
    obtain ⟨rfl, rfl⟩ := ho
    subst hdo
    simp only [Option.bind_some] at hg
    subst hg
    refine ⟨_, rfl, rfl, ?_⟩
    unfold wpList at h
    simp only [Region.wanted, if_true] at h
    have he : execOp a.eval { dst, op := op', type := type', pos, after, guard := none } = execOp a.eval { dst, op := op', type := type', pos := "", after := #[], guard := none } := by
      cases op' <;> rfl
    rcases h with h | ⟨_, h2⟩
    · unfold Oper.wp at h ⊢
      rw [he]
      generalize (execOp a.eval { dst, op := op', type := type', pos := "", after := #[], guard := none }).run P w = r at *
      cases r with
      | ok n w' =>
        cases n <;> simp only [Oper.upon, wpList] at h ⊢
        case value u => exact h
        case skip => exact h
        case defer u => exact h
        case enter f args =>
          refine Calls.mono h fun e w'' he => ?_
          cases e with
          | returned u => exact he
          | panicked c => exact he.elim
          | outgrown => obtain ⟨_, _, hf⟩ := he; exact hf.elim
        case row row args => exact h
      | halt x w' =>
        cases x <;> simp only [Oper.upon] at h ⊢
        case panic u => exact h.elim
    · obtain ⟨_, _, h3⟩ := h2
      exact h3.elim
theorem region_set {id : Nat} (sp fl : List Nat) (c : Nat → Value) (W : World → Prop) (hm : P.follows .mixedOrders = true) (hreg : regB ops a0.tmps.size = true) (hsp : setB ops sp fl = true) (hW : W w0.drew)
    (hF : ∀ i ∈ fl, ∀ w, W w → ∃ o, ops[i]? = some o ∧ (execOp (putL ops c fl a0).eval o).run P w = .ok (.value (c i)) w)
    (fin : SpineS P ops Q W sp.length sp (putL ops c fl a0) w0.drew) : (Code.region id ops true).wp P Q a0 w0 := by
  unfold setB at hsp
  simp only [Bool.and_eq_true, List.all_eq_true, List.mem_range, decide_eq_true_eq, Bool.or_eq_true, List.contains_iff_mem, Bool.not_eq_true', Bool.not_eq_eq_eq_not, Bool.not_true] at hsp
  obtain ⟨⟨⟨⟨⟨hcov, hfl⟩, hspl⟩, hnd⟩, hfo⟩, hso⟩ := hsp
  have hflsp : ∀ j ∈ fl, j ∉ sp := fun j hj h => by
    have := (hfl j hj).1.1.1
    rw [List.contains_eq_mem] at this
    simp [h] at this
  have getT : ∀ (l : Array Bool) (k : Nat) (b c : Bool), k < l.size → l.getD k b = l.getD k c := by
    intro l k b c hk
    rw [Array.getD_eq_getD_getElem?, Array.getD_eq_getD_getElem?, Array.getElem?_eq_getElem hk]; rfl
  have hdst : ∀ i, i < ops.size → ∃ d, dstOf ops i = some d ∧ d < a0.tmps.size ∧ ∀ j, j < ops.size → j ≠ i → dstOf ops j ≠ some d := by
    intro i hi
    obtain ⟨o2, d, ho2, hd2, hdl, hdd, _⟩ := regB_at hreg hi
    exact ⟨d, by unfold dstOf; rw [ho2]; exact hd2, hdl, hdd⟩
  have hA0 : ∀ j ∈ fl, valAt ops (putL ops c fl a0) j = c j := by
    intro j hj
    obtain ⟨d, hd, hdl, _⟩ := hdst j (hfl j hj).1.1.2
    have hs := (hfl j hj).2
    unfold slotsB at hs
    rw [hd] at hs
    unfold valAt
    rw [hd]
    exact slotJ fl hdl hs
  have hout : ∀ t, (∀ j ∈ fl, dstOf ops j ≠ some t) → (putL ops c fl a0).tmps.getD t undef = a0.tmps.getD t undef := by
    intro t ht
    exact slotO fl (List.all_eq_true.2 fun k hk => by simpa using ht k hk)
  have main : ∀ (fuel : Nat) (listed : Array Bool) (a : Act) (w : World) (dn rest : List Nat) (A : Act), listed.size = ops.size →
      ((List.range ops.size).filter fun j => !listed.getD j true).length ≤ fuel →
      W w → SpineS P ops Q W rest.length rest A w → ((∀ i ∈ sp, i ∈ dn ∨ i ∈ rest) ∧ (∀ i ∈ dn, i ∈ sp) ∧ (∀ i ∈ rest, i ∈ sp) ∧ rest.Nodup) → (∀ i ∈ dn, listed.getD i true = true) → (∀ i ∈ rest, listed.getD i true = false) → a.defers = A.defers → a.tmps.size = A.tmps.size → A.tmps.size = a0.tmps.size →
      (∀ j ∈ fl, valAt ops A j = c j) → (∀ t, (∀ j ∈ dn, dstOf ops j ≠ some t) → (∀ j ∈ fl, dstOf ops j ≠ some t) → A.tmps.getD t undef = a0.tmps.getD t undef) → (∀ j ∈ dn, ∀ k, waitsB ops j k = true → listed.getD k true = true) →
      (∀ t, a.tmps.getD t undef = A.tmps.getD t undef ∨ ∃ j ∈ fl, listed.getD j true = false ∧ dstOf ops j = some t) →
      wpAny P .any ops Q fuel listed a w := by
    intro fuel
    have allUp : ∀ (listed : Array Bool), listed.size = ops.size → Region.ready .any ops listed = [] → ∀ j, j < ops.size → listed.getD j true = true := by
      intro listed hsz hr j
      induction j using Nat.strongRecOn with
      | ind j ih =>
        intro hj
        cases hl : listed.getD j true with
        | true => rfl
        | false =>
          exfalso
          obtain ⟨o, d, ho, _, _, _, he⟩ := regB_at hreg hj
          have : j ∈ Region.ready .any ops listed := mem_ready.2 ⟨hl, o, ho, fun e hem hb => by
            have hlt := he e hem hb
            have := ih e.on hlt (by omega)
            rw [Array.getD_eq_getD_getElem?] at this ⊢
            rw [Array.getElem?_eq_getElem (by omega)] at this ⊢
            exact this⟩
          rw [hr] at this
          cases this
    have done : ∀ (listed : Array Bool) (a : Act) (w : World) (dn rest : List Nat) (A : Act), (∀ j, j < ops.size → listed.getD j true = true) → SpineS P ops Q W rest.length rest A w → ((∀ i ∈ sp, i ∈ dn ∨ i ∈ rest) ∧ (∀ i ∈ dn, i ∈ sp) ∧ (∀ i ∈ rest, i ∈ sp) ∧ rest.Nodup) → (∀ i ∈ rest, listed.getD i true = false) →
        a.defers = A.defers → a.tmps.size = A.tmps.size → (∀ t, a.tmps.getD t undef = A.tmps.getD t undef ∨ ∃ j ∈ fl, listed.getD j true = false ∧ dstOf ops j = some t) → Q .normal a w := by
      intro listed a w dn rest A hall hS hdn hrest hd hs hrel
      cases rest with
      | cons i is =>
        have h1 := hrest i (.head _)
        rw [hall i (hspl i (hdn.2.2.1 i (.head _)))] at h1
        cases h1
      | nil =>
        have h1 := putL_whole (ops := ops) A [] a hs hd (fun t => by
          rcases hrel t with h | ⟨j, hj, h1, _⟩
          · exact .inl h
          · rw [hall j (hfl j hj).1.1.2] at h1; cases h1)
        unfold putL at h1
        rw [h1]
        exact hS
    induction fuel with
    | zero =>
      intro listed a w dn rest A hsz hcnt hw hS hdn hdl hrest hd hs hs0 hv ho hC hrel
      have hall : ∀ j, j < ops.size → listed.getD j true = true := by
        intro j hj
        cases hl : listed.getD j true with
        | true => rfl
        | false =>
          have : j ∈ (List.range ops.size).filter fun j => !listed.getD j true := List.mem_filter.2 ⟨List.mem_range.2 hj, by simp only [hl]; rfl⟩
          rw [List.eq_nil_of_length_eq_zero (Nat.le_zero.1 hcnt)] at this
          cases this
      refine ⟨?_, done listed a w dn rest A hall hS hdn hrest hd hs hrel⟩
      apply List.eq_nil_iff_forall_not_mem.2
      intro j hj
      obtain ⟨h1, o, ho, _⟩ := mem_ready.1 hj
      have hlt : j < ops.size := (Array.getElem?_eq_some_iff.1 ho).1
      rw [hall j hlt] at h1
      cases h1
    | succ fuel ih =>
      intro listed a w dn rest A hsz hcnt hw hS hdn hdl hrest hd hs hs0 hv ho hC hrel
      refine ⟨fun hr => done listed a w dn rest A (allUp listed hsz hr) hS hdn hrest hd hs hrel, fun i hi => ?_⟩
      obtain ⟨hui, o, hoi, hall⟩ := mem_ready.1 hi
      have hlt : i < ops.size := (Array.getElem?_eq_some_iff.1 hoi).1
      have hlz : i < listed.size := by omega
      have hwt : ∀ j, waitsB ops i j = true → listed.getD j true = true := by
        intro j hj
        obtain ⟨o', ho', e, he, hb, rfl⟩ := waits_some hj
        rw [hoi] at ho'
        injection ho' with ho'
        subst ho'
        have h1 := hall e he hb
        rcases Nat.lt_or_ge e.on listed.size with hl | hl
        · rw [getT _ _ true false hl]
          exact h1
        · rw [Array.getD_eq_getD_getElem?, Array.getElem?_eq_none hl] at h1; cases h1
      have hset : ∀ j b, (listed.setIfInBounds i true).getD j b = if j = i then true else listed.getD j b := by
        intro j b
        rw [Array.getD_eq_getD_getElem?, Array.getD_eq_getD_getElem?, Array.getElem?_setIfInBounds]
        by_cases e : i = j
        · subst e; simp [hlz]
        · rw [if_neg e, if_neg (fun h => e h.symm)]
      have hcnt' : ((List.range ops.size).filter fun j => !(listed.setIfInBounds i true).getD j true).length ≤ fuel := by
        have := filter_less (p := fun j => !listed.getD j true) (q := fun j => !(listed.setIfInBounds i true).getD j true) (i := i) (l := List.range ops.size) (fun x hx => by
          rw [hset] at hx
          by_cases e : x = i
          · rw [if_pos e] at hx; cases hx
          · rw [if_neg e] at hx; exact hx) (List.mem_range.2 hlt) (by rw [hui]; rfl) (by rw [hset, if_pos rfl]; rfl)
        omega
      obtain ⟨d, hdo, hdlt, hdd⟩ := hdst i hlt
      have hops : operandsOf ops i = o.op.operands.toList.filterMap fun | .tmp t => some t | _ => none := by unfold operandsOf; rw [hoi]; rfl
      have hndf : match o.op with | .defer _ => False | .select .. => False | _ => True := regB_plain hreg hoi
      have hdo' : o.dst = some d := by unfold dstOf at hdo; rw [hoi] at hdo; exact hdo
      have hcong : ∀ B : Act, (∀ t ∈ operandsOf ops i, B.tmps.getD t undef = a.tmps.getD t undef) → execOp B.eval o = execOp a.eval o := by
        intro B hB
        refine execOp_congr o (fun cs b e => by rw [e] at hndf; exact hndf) fun x hx => ?_
        cases x with
        | tmp t => exact hB t (by rw [hops]; exact List.mem_filterMap.2 ⟨.tmp t, by simpa using hx, rfl⟩)
        | _ => rfl
      have hval : ∀ (B : Act) (v : Value), B.tmps.size = a0.tmps.size → valAt ops (B.put o.dst v) i = v := by
        intro B v hB
        unfold valAt
        rw [hdo, hdo']
        exact put_same _ _ _ (by rw [hB]; exact hdlt)
      by_cases hf1 : i ∈ fl
      · -- one that floats
        have hg := (hfl i hf1).1.2
        rw [hoi, Option.bind_some, Option.isNone_iff_eq_none] at hg
        obtain ⟨o3, ho3, hrun⟩ := hF i hf1 w hw
        rw [hoi] at ho3
        injection ho3 with ho3
        subst ho3
        have hA0a : ∀ t ∈ operandsOf ops i, (putL ops c fl a0).tmps.getD t undef = a.tmps.getD t undef := by
          intro t ht
          rcases hfo i hf1 t ht with h | h
          · rw [List.any_eq_true] at h
            obtain ⟨j, hj, h⟩ := h
            rw [Bool.and_eq_true, beq_iff_eq] at h
            have h1 := hA0 j hj
            have h2 := hv j hj
            unfold valAt at h1 h2
            rw [h.2] at h1 h2
            rcases hrel t with h3 | ⟨k, hk, h3, h4⟩
            · rw [h3]; exact h1.trans h2.symm
            · exfalso
              obtain ⟨dj, hdj, _, hdd2⟩ := hdst j (hfl j hj).1.1.2
              rw [h.2] at hdj
              injection hdj with hdj
              subst hdj
              have hkj : k = j := by
                apply Classical.byContradiction
                intro hne
                exact hdd2 k (hfl k hk).1.1.2 hne h4
              rw [hkj, hwt j h.1] at h3
              cases h3
          · have h' : ∀ j ∈ fl, dstOf ops j ≠ some t := fun j hj => by simpa using h.1 j hj
            rw [hout t h', ← ho t (fun j hj e => by
              rcases h.2 j (hdn.2.1 j hj) with h5 | h5
              · exact absurd e (by simpa using h5)
              · have := hC j hj i h5
                rw [hui] at this
                cases this) h']
            rcases hrel t with h3 | ⟨k, hk, _, h4⟩
            · exact h3.symm
            · exact absurd h4 (h' k hk)
        have hrun' : (execOp a.eval o).run P w = .ok (.value (c i)) w := by rw [← hcong _ hA0a]; exact hrun
        unfold wpOp
        rw [hoi]
        simp only [Region.wanted, hg, if_true]
        left
        unfold Oper.wp
        rw [hrun']
        simp only [Oper.upon]
        refine ih (listed.setIfInBounds i true) (a.put o.dst (c i)) w dn rest A (by simp [hsz]) hcnt' hw hS hdn (fun x hx => by rw [hset]; split; rfl; exact hdl x hx) ?_ ?_ (by rw [put_size, hs]) hs0 hv ho (fun j hj k hk => by rw [hset]; split; rfl; exact hC j hj k hk) ?_
        · intro x hx
          rw [hset, if_neg (fun e => hflsp i hf1 (by rw [← e]; exact hdn.2.2.1 _ hx))]
          exact hrest x hx
        · rw [← hd]; cases o.dst <;> rfl
        · intro t
          by_cases e : dstOf ops i = some t
          · left
            have h2 := hv i hf1
            unfold valAt at h2
            rw [e] at h2
            rw [hdo] at e
            injection e with e
            subst e
            rw [hdo', put_same _ _ _ (by rw [hs, hs0]; exact hdlt)]
            exact h2.symm
          · rw [put_other _ _ _ _ (by rw [hdo', ← hdo]; exact e)]
            rcases hrel t with h3 | ⟨k, hk, h3, h4⟩
            · exact .inl h3
            · refine .inr ⟨k, hk, ?_, h4⟩
              rw [hset, if_neg (fun e2 => e (by rw [← e2]; exact h4))]
              exact h3
      · -- one of the row
        have hs1 : i ∈ sp := by
          rcases hcov i hlt with h | h
          · exact h
          · exact absurd h hf1
        have hir : i ∈ rest := by
          rcases hdn.1 i hs1 with h | h
          · rw [hdl i h] at hui; cases hui
          · exact h
        have hfree : (rest.all fun j => !waitsB ops i j) = true := by
          rw [List.all_eq_true]
          intro j hj
          cases hw2 : waitsB ops i j with
          | false => rfl
          | true =>
            have h1 := hwt j hw2
            rw [hrest j hj] at h1
            cases h1
        have hlen : rest.length = (rest.erase i).length + 1 := by
          rw [List.length_erase_of_mem hir]
          have := List.length_pos_of_mem hir
          omega
        rw [hlen] at hS
        obtain ⟨o3, ho3, hg, hwp⟩ := hS i hir hfree
        rw [hoi] at ho3
        injection ho3 with ho3
        subst ho3
        have hAa : ∀ t ∈ operandsOf ops i, A.tmps.getD t undef = a.tmps.getD t undef := by
          intro t ht
          rcases hrel t with h3 | ⟨k, hk, h3, h4⟩
          · exact h3.symm
          · exfalso
            rcases hso i hs1 t ht k hk with h | h
            · exact absurd h4 (by simpa using h)
            · rw [hwt k h] at h3; cases h3
        unfold wpOp
        rw [hoi]
        simp only [Region.wanted, hg, if_true]
        left
        refine wp_two (hcong A hAa) hwp ?_
        rintro v w' ⟨hw', hS'⟩
        refine ih (listed.setIfInBounds i true) (a.put o.dst v) w' (dn ++ [i]) (rest.erase i) (A.put o.dst v) (by simp [hsz]) hcnt' hw' hS' ⟨fun x hx => by
          rcases hdn.1 x hx with h | h
          · exact .inl (List.mem_append_left _ h)
          · by_cases e : x = i
            · exact .inl (by rw [e]; simp)
            · exact .inr ((List.mem_erase_of_ne e).2 h), fun x hx => by
          rcases List.mem_append.1 hx with h | h
          · exact hdn.2.1 x h
          · have e : x = i := by simpa using h
            rw [e]; exact hs1, fun x hx => hdn.2.2.1 x (List.mem_of_mem_erase hx), hdn.2.2.2.erase i⟩ (fun x hx => by
          rw [hset]
          split
          · rfl
          · rename_i hne
            rcases List.mem_append.1 hx with h | h
            · exact hdl x h
            · exact absurd (by simpa using h) hne) ?_ ?_ (by rw [put_size, put_size, hs]) (by rw [put_size, hs0]) ?_ ?_ ?_ ?_
        · intro x hx
          have hne : x ≠ i := ((List.Nodup.mem_erase_iff hdn.2.2.2).1 hx).1
          rw [hset, if_neg hne]
          exact hrest x (List.mem_of_mem_erase hx)
        · cases o.dst <;> exact hd
        · intro j hj
          rw [← hv j hj]
          unfold valAt
          cases hjd : dstOf ops j with
          | none => rfl
          | some dj =>
            simp only
            refine put_other _ _ _ _ ?_
            rw [hdo']
            intro e
            have hji : j ≠ i := fun e2 => hf1 (by rw [← e2]; exact hj)
            exact hdd j (hfl j hj).1.1.2 hji (by rw [hjd]; exact e.symm)
        · intro t ht ht2
          rw [put_other _ _ _ _ (by rw [hdo', ← hdo]; exact ht i (by simp))]
          exact ho t (fun j hj => ht j (List.mem_append_left _ hj)) ht2
        · intro j hj k hk
          rw [hset]
          split
          · rfl
          · rcases List.mem_append.1 hj with h | h
            · exact hC j h k hk
            · have : j = i := by simpa using h
              subst this
              exact hwt k hk
        · intro t
          by_cases e : o.dst = some t
          · left
            rw [e]
            rw [hdo'] at e
            injection e with e
            subst e
            rw [put_same _ _ _ (by rw [hs, hs0]; exact hdlt), put_same _ _ _ (by rw [hs0]; exact hdlt)]
          · rw [put_other _ _ _ _ e, put_other _ _ _ _ e]
            rcases hrel t with h3 | ⟨k, hk, h3, h4⟩
            · exact .inl h3
            · refine .inr ⟨k, hk, ?_, h4⟩
              rw [hset, if_neg (fun e2 => hf1 (by rw [← e2]; exact hk))]
              exact h3
  refine wp_region_any hm ?_
  refine main ops.size (Array.replicate ops.size false) a0 w0.drew [] sp (putL ops c fl a0) (by simp) ?_ hW fin ⟨fun x hx => .inr hx, fun x hx => (by cases hx), fun x hx => hx, hnd⟩ (fun x hx => by cases hx) ?_ (putL_defers c fl a0).symm (putL_size c fl a0).symm (putL_size c fl a0) hA0 (fun t _ h => hout t h) (fun j hj => by cases hj) ?_
  · exact Nat.le_trans (List.length_filter_le _ _) (by simp)
  · intro i hi
    rw [Array.getD_eq_getD_getElem?, Array.getElem?_eq_getElem (by simpa using hspl i hi)]
    simp
  · intro t
    by_cases e : ∃ j ∈ fl, dstOf ops j = some t
    · obtain ⟨j, hj, hjd⟩ := e
      refine .inr ⟨j, hj, ?_, hjd⟩
      rw [Array.getD_eq_getD_getElem?, Array.getElem?_eq_getElem (by simpa using (hfl j hj).1.1.2)]
      simp
    · left
      exact (slotO fl (List.all_eq_true.2 fun k hk => by
        have : dstOf ops k ≠ some t := fun h => e ⟨k, hk, h⟩
        simpa using this)).symm
end
end Go.Proofs.YtdppnggchpchgaaDoor
/- A region as in RegU, whose operation without a slot stands anywhere in the row. No conditions. -/
namespace Go.Proofs.YtdppnggchpchgaaDoor
set_option linter.unusedVariables false
set_option linter.unusedSimpArgs false
open Go.RowKit
section
variable {P : Program} {ops : Array Oper} {Q : Exit → Act → World → Prop} {a0 : Act} {w0 : World}
/-- The checks of regB, of all but m, which leaves nothing in a slot. -/
def regVB (ops : Array Oper) (m size : Nat) : Bool :=
  decide (m < ops.size) && ((List.range ops.size).all fun i => eldB ops i) && ((List.range ops.size).all fun i => i == m || ownB ops ops.size size i) && (dstOf ops m).isNone && (List.range ops.size).all fun i => plainB ops i
end
end Go.Proofs.YtdppnggchpchgaaDoor
/- A region as in RegW, one of whose operations leaves nothing in a slot (a store). No conditions. -/
namespace Go.Proofs.YtdppnggchpchgaaDoor
set_option linter.unusedVariables false
set_option linter.unusedSimpArgs false
open Go.RowKit
section
variable {P : Program} {ops : Array Oper} {Q : Exit → Act → World → Prop} {a0 : Act} {w0 : World}
theorem region_setV {id m : Nat} (sp fl : List Nat) (c : Nat → Value) (W : World → Prop) (hm : P.follows .mixedOrders = true) (hreg : regVB ops m a0.tmps.size = true) (hmsp : m ∈ sp) (hsp : setB ops sp fl = true) (hW : W w0.drew)
    (hF : ∀ i ∈ fl, ∀ w, W w → ∃ o, ops[i]? = some o ∧ (execOp (putL ops c fl a0).eval o).run P w = .ok (.value (c i)) w)
    (fin : SpineS P ops Q W sp.length sp (putL ops c fl a0) w0.drew) : (Code.region id ops true).wp P Q a0 w0 := by
  unfold setB at hsp
  simp only [Bool.and_eq_true, List.all_eq_true, List.mem_range, decide_eq_true_eq, Bool.or_eq_true, List.contains_iff_mem, Bool.not_eq_true', Bool.not_eq_eq_eq_not, Bool.not_true] at hsp
  obtain ⟨⟨⟨⟨⟨hcov, hfl⟩, hspl⟩, hnd⟩, hfo⟩, hso⟩ := hsp
  have hflsp : ∀ j ∈ fl, j ∉ sp := fun j hj h => by
    have := (hfl j hj).1.1.1
    rw [List.contains_eq_mem] at this
    simp [h] at this
  have getT : ∀ (l : Array Bool) (k : Nat) (b c : Bool), k < l.size → l.getD k b = l.getD k c := by
    intro l k b c hk
    rw [Array.getD_eq_getD_getElem?, Array.getD_eq_getD_getElem?, Array.getElem?_eq_getElem hk]; rfl
  unfold regVB at hreg
  simp only [Bool.and_eq_true, Bool.or_eq_true, decide_eq_true_eq, beq_iff_eq, List.all_eq_true, List.mem_range, Option.isNone_iff_eq_none] at hreg
  obtain ⟨⟨⟨⟨hsize, held⟩, hown⟩, hmn⟩, hplain⟩ := hreg
  have hflm : ∀ j ∈ fl, j ≠ m := fun j hj e => hflsp j hj (by rw [e]; exact hmsp)
  have hdst : ∀ i, i < ops.size → i ≠ m → ∃ d, dstOf ops i = some d ∧ d < a0.tmps.size ∧ ∀ j, j < ops.size → j ≠ i → dstOf ops j ≠ some d := by
    intro i hi him
    obtain ⟨d, hd, hdl, hdd⟩ := ownB_out ((hown i (by omega)).resolve_left him)
    refine ⟨d, hd, hdl, fun j hj hne => ?_⟩
    by_cases e : j = m
    · rw [e, hmn]; exact fun h => by cases h
    · exact hdd j (by omega) hne
  have hA0 : ∀ j ∈ fl, valAt ops (putL ops c fl a0) j = c j := by
    intro j hj
    obtain ⟨d, hd, hdl, _⟩ := hdst j (hfl j hj).1.1.2 (hflm j hj)
    have hs := (hfl j hj).2
    unfold slotsB at hs
    rw [hd] at hs
    unfold valAt
    rw [hd]
    exact slotJ fl hdl hs
  have hout : ∀ t, (∀ j ∈ fl, dstOf ops j ≠ some t) → (putL ops c fl a0).tmps.getD t undef = a0.tmps.getD t undef := by
    intro t ht
    exact slotO fl (List.all_eq_true.2 fun k hk => by simpa using ht k hk)
  have main : ∀ (fuel : Nat) (listed : Array Bool) (a : Act) (w : World) (dn rest : List Nat) (A : Act), listed.size = ops.size →
      ((List.range ops.size).filter fun j => !listed.getD j true).length ≤ fuel →
      W w → SpineS P ops Q W rest.length rest A w → ((∀ i ∈ sp, i ∈ dn ∨ i ∈ rest) ∧ (∀ i ∈ dn, i ∈ sp) ∧ (∀ i ∈ rest, i ∈ sp) ∧ rest.Nodup) → (∀ i ∈ dn, listed.getD i true = true) → (∀ i ∈ rest, listed.getD i true = false) → a.defers = A.defers → a.tmps.size = A.tmps.size → A.tmps.size = a0.tmps.size →
      (∀ j ∈ fl, valAt ops A j = c j) → (∀ t, (∀ j ∈ dn, dstOf ops j ≠ some t) → (∀ j ∈ fl, dstOf ops j ≠ some t) → A.tmps.getD t undef = a0.tmps.getD t undef) → (∀ j ∈ dn, ∀ k, waitsB ops j k = true → listed.getD k true = true) →
      (∀ t, a.tmps.getD t undef = A.tmps.getD t undef ∨ ∃ j ∈ fl, listed.getD j true = false ∧ dstOf ops j = some t) →
      wpAny P .any ops Q fuel listed a w := by
    intro fuel
    have allUp : ∀ (listed : Array Bool), listed.size = ops.size → Region.ready .any ops listed = [] → ∀ j, j < ops.size → listed.getD j true = true := by
      intro listed hsz hr j
      induction j using Nat.strongRecOn with
      | ind j ih =>
        intro hj
        cases hl : listed.getD j true with
        | true => rfl
        | false =>
          exfalso
          obtain ⟨o, ho, he⟩ := eldB_out (held j (by omega))
          have : j ∈ Region.ready .any ops listed := mem_ready.2 ⟨hl, o, ho, fun e hem hb => by
            have hlt := he e hem hb
            have := ih e.on hlt (by omega)
            rw [Array.getD_eq_getD_getElem?] at this ⊢
            rw [Array.getElem?_eq_getElem (by omega)] at this ⊢
            exact this⟩
          rw [hr] at this
          cases this
    have done : ∀ (listed : Array Bool) (a : Act) (w : World) (dn rest : List Nat) (A : Act), (∀ j, j < ops.size → listed.getD j true = true) → SpineS P ops Q W rest.length rest A w → ((∀ i ∈ sp, i ∈ dn ∨ i ∈ rest) ∧ (∀ i ∈ dn, i ∈ sp) ∧ (∀ i ∈ rest, i ∈ sp) ∧ rest.Nodup) → (∀ i ∈ rest, listed.getD i true = false) →
        a.defers = A.defers → a.tmps.size = A.tmps.size → (∀ t, a.tmps.getD t undef = A.tmps.getD t undef ∨ ∃ j ∈ fl, listed.getD j true = false ∧ dstOf ops j = some t) → Q .normal a w := by
      intro listed a w dn rest A hall hS hdn hrest hd hs hrel
      cases rest with
      | cons i is =>
        have h1 := hrest i (.head _)
        rw [hall i (hspl i (hdn.2.2.1 i (.head _)))] at h1
        cases h1
      | nil =>
        have h1 := putL_whole (ops := ops) A [] a hs hd (fun t => by
          rcases hrel t with h | ⟨j, hj, h1, _⟩
          · exact .inl h
          · rw [hall j (hfl j hj).1.1.2] at h1; cases h1)
        unfold putL at h1
        rw [h1]
        exact hS
    induction fuel with
    | zero =>
      intro listed a w dn rest A hsz hcnt hw hS hdn hdl hrest hd hs hs0 hv ho hC hrel
      have hall : ∀ j, j < ops.size → listed.getD j true = true := by
        intro j hj
        cases hl : listed.getD j true with
        | true => rfl
        | false =>
          have : j ∈ (List.range ops.size).filter fun j => !listed.getD j true := List.mem_filter.2 ⟨List.mem_range.2 hj, by simp only [hl]; rfl⟩
          rw [List.eq_nil_of_length_eq_zero (Nat.le_zero.1 hcnt)] at this
          cases this
      refine ⟨?_, done listed a w dn rest A hall hS hdn hrest hd hs hrel⟩
      apply List.eq_nil_iff_forall_not_mem.2
      intro j hj
      obtain ⟨h1, o, ho, _⟩ := mem_ready.1 hj
      have hlt : j < ops.size := (Array.getElem?_eq_some_iff.1 ho).1
      rw [hall j hlt] at h1
      cases h1
    | succ fuel ih =>
      intro listed a w dn rest A hsz hcnt hw hS hdn hdl hrest hd hs hs0 hv ho hC hrel
      refine ⟨fun hr => done listed a w dn rest A (allUp listed hsz hr) hS hdn hrest hd hs hrel, fun i hi => ?_⟩
      obtain ⟨hui, o, hoi, hall⟩ := mem_ready.1 hi
      have hlt : i < ops.size := (Array.getElem?_eq_some_iff.1 hoi).1
      have hlz : i < listed.size := by omega
      have hwt : ∀ j, waitsB ops i j = true → listed.getD j true = true := by
        intro j hj
        obtain ⟨o', ho', e, he, hb, rfl⟩ := waits_some hj
        rw [hoi] at ho'
        injection ho' with ho'
        subst ho'
        have h1 := hall e he hb
        rcases Nat.lt_or_ge e.on listed.size with hl | hl
        · rw [getT _ _ true false hl]
          exact h1
        · rw [Array.getD_eq_getD_getElem?, Array.getElem?_eq_none hl] at h1; cases h1
      have hset : ∀ j b, (listed.setIfInBounds i true).getD j b = if j = i then true else listed.getD j b := by
        intro j b
        rw [Array.getD_eq_getD_getElem?, Array.getD_eq_getD_getElem?, Array.getElem?_setIfInBounds]
        by_cases e : i = j
        · subst e; simp [hlz]
        · rw [if_neg e, if_neg (fun h => e h.symm)]
      have hcnt' : ((List.range ops.size).filter fun j => !(listed.setIfInBounds i true).getD j true).length ≤ fuel := by
        have := filter_less (p := fun j => !listed.getD j true) (q := fun j => !(listed.setIfInBounds i true).getD j true) (i := i) (l := List.range ops.size) (fun x hx => by
          rw [hset] at hx
          by_cases e : x = i
          · rw [if_pos e] at hx; cases hx
          · rw [if_neg e] at hx; exact hx) (List.mem_range.2 hlt) (by rw [hui]; rfl) (by rw [hset, if_pos rfl]; rfl)
        omega
      have hops : operandsOf ops i = o.op.operands.toList.filterMap fun | .tmp t => some t | _ => none := by unfold operandsOf; simp only [hoi]; try rfl
      have hndf : match o.op with | .defer _ => False | .select .. => False | _ => True := by
        have h2 := hplain i (by omega)
        unfold plainB at h2
        simp only [hoi] at h2
        revert h2
        cases o.op <;> simp
      have hcong : ∀ B : Act, (∀ t ∈ operandsOf ops i, B.tmps.getD t undef = a.tmps.getD t undef) → execOp B.eval o = execOp a.eval o := by
        intro B hB
        refine execOp_congr o (fun cs b e => by rw [e] at hndf; exact hndf) fun x hx => ?_
        cases x with
        | tmp t => exact hB t (by rw [hops]; exact List.mem_filterMap.2 ⟨.tmp t, by simpa using hx, rfl⟩)
        | _ => rfl
      by_cases him : i = m
      · have hf1 : i ∉ fl := fun h => hflm i h him
        have hdn0 : o.dst = none := by
          have h2 := hmn
          rw [← him] at h2
          unfold dstOf at h2
          rw [hoi] at h2
          exact h2
        have hput : ∀ (B : Act) (v : Value), B.put o.dst v = B := fun B v => by rw [hdn0]; rfl
        have hs1 : i ∈ sp := by
          rcases hcov i hlt with h | h
          · exact h
          · exact absurd h hf1
        have hir : i ∈ rest := by
          rcases hdn.1 i hs1 with h | h
          · rw [hdl i h] at hui; cases hui
          · exact h
        have hfree : (rest.all fun j => !waitsB ops i j) = true := by
          rw [List.all_eq_true]
          intro j hj
          cases hw2 : waitsB ops i j with
          | false => rfl
          | true =>
            have h1 := hwt j hw2
            rw [hrest j hj] at h1
            cases h1
        have hlen : rest.length = (rest.erase i).length + 1 := by
          rw [List.length_erase_of_mem hir]
          have := List.length_pos_of_mem hir
          omega
        rw [hlen] at hS
        obtain ⟨o3, ho3, hg, hwp⟩ := hS i hir hfree
        rw [hoi] at ho3
        injection ho3 with ho3
        subst ho3
        have hAa : ∀ t ∈ operandsOf ops i, A.tmps.getD t undef = a.tmps.getD t undef := by
          intro t ht
          rcases hrel t with h3 | ⟨k, hk, h3, h4⟩
          · exact h3.symm
          · exfalso
            rcases hso i hs1 t ht k hk with h | h
            · exact absurd h4 (by simpa using h)
            · rw [hwt k h] at h3; cases h3
        unfold wpOp
        rw [hoi]
        simp only [Region.wanted, hg, if_true]
        left
        refine wp_two (hcong A hAa) hwp ?_
        rintro v w' ⟨hw', hS'⟩
        refine ih (listed.setIfInBounds i true) (a.put o.dst v) w' (dn ++ [i]) (rest.erase i) (A.put o.dst v) (by simp [hsz]) hcnt' hw' hS' ⟨fun x hx => by
          rcases hdn.1 x hx with h | h
          · exact .inl (List.mem_append_left _ h)
          · by_cases e : x = i
            · exact .inl (by rw [e]; simp)
            · exact .inr ((List.mem_erase_of_ne e).2 h), fun x hx => by
          rcases List.mem_append.1 hx with h | h
          · exact hdn.2.1 x h
          · have e : x = i := by simpa using h
            rw [e]; exact hs1, fun x hx => hdn.2.2.1 x (List.mem_of_mem_erase hx), hdn.2.2.2.erase i⟩ (fun x hx => by
          rw [hset]
          split
          · rfl
          · rename_i hne
            rcases List.mem_append.1 hx with h | h
            · exact hdl x h
            · exact absurd (by simpa using h) hne) ?_ ?_ (by rw [put_size, put_size, hs]) (by rw [put_size, hs0]) ?_ ?_ ?_ ?_
        · intro x hx
          have hne : x ≠ i := ((List.Nodup.mem_erase_iff hdn.2.2.2).1 hx).1
          rw [hset, if_neg hne]
          exact hrest x (List.mem_of_mem_erase hx)
        · cases o.dst <;> exact hd
        · intro j hj
          rw [hput]; exact hv j hj
        · intro t ht ht2
          rw [hput]; exact ho t (fun j hj => ht j (List.mem_append_left _ hj)) ht2
        · intro j hj k hk
          rw [hset]
          split
          · rfl
          · rcases List.mem_append.1 hj with h | h
            · exact hC j h k hk
            · have : j = i := by simpa using h
              subst this
              exact hwt k hk
        · intro t
          rw [hput, hput]
          rcases hrel t with h3 | ⟨k, hk, h3, h4⟩
          · exact .inl h3
          · refine .inr ⟨k, hk, ?_, h4⟩
            rw [hset, if_neg (fun e2 => hf1 (by rw [← e2]; exact hk))]
            exact h3
      · obtain ⟨d, hdo, hdlt, hdd⟩ := hdst i hlt him
        have hdo' : o.dst = some d := by unfold dstOf at hdo; rw [hoi] at hdo; exact hdo
        have hval : ∀ (B : Act) (v : Value), B.tmps.size = a0.tmps.size → valAt ops (B.put o.dst v) i = v := by
          intro B v hB
          unfold valAt
          rw [hdo, hdo']
          exact put_same _ _ _ (by rw [hB]; exact hdlt)
        by_cases hf1 : i ∈ fl
        · -- one that floats
          have hg := (hfl i hf1).1.2
          rw [hoi, Option.bind_some, Option.isNone_iff_eq_none] at hg
          obtain ⟨o3, ho3, hrun⟩ := hF i hf1 w hw
          rw [hoi] at ho3
          injection ho3 with ho3
          subst ho3
          have hA0a : ∀ t ∈ operandsOf ops i, (putL ops c fl a0).tmps.getD t undef = a.tmps.getD t undef := by
            intro t ht
            rcases hfo i hf1 t ht with h | h
            · rw [List.any_eq_true] at h
              obtain ⟨j, hj, h⟩ := h
              rw [Bool.and_eq_true, beq_iff_eq] at h
              have h1 := hA0 j hj
              have h2 := hv j hj
              unfold valAt at h1 h2
              rw [h.2] at h1 h2
              rcases hrel t with h3 | ⟨k, hk, h3, h4⟩
              · rw [h3]; exact h1.trans h2.symm
              · exfalso
                obtain ⟨dj, hdj, _, hdd2⟩ := hdst j (hfl j hj).1.1.2 (hflm j hj)
                rw [h.2] at hdj
                injection hdj with hdj
                subst hdj
                have hkj : k = j := by
                  apply Classical.byContradiction
                  intro hne
                  exact hdd2 k (hfl k hk).1.1.2 hne h4
                rw [hkj, hwt j h.1] at h3
                cases h3
            · have h' : ∀ j ∈ fl, dstOf ops j ≠ some t := fun j hj => by simpa using h.1 j hj
              rw [hout t h', ← ho t (fun j hj e => by
                rcases h.2 j (hdn.2.1 j hj) with h5 | h5
                · exact absurd e (by simpa using h5)
                · have := hC j hj i h5
                  rw [hui] at this
                  cases this) h']
              rcases hrel t with h3 | ⟨k, hk, _, h4⟩
              · exact h3.symm
              · exact absurd h4 (h' k hk)
          have hrun' : (execOp a.eval o).run P w = .ok (.value (c i)) w := by rw [← hcong _ hA0a]; exact hrun
          unfold wpOp
          rw [hoi]
          simp only [Region.wanted, hg, if_true]
          left
          unfold Oper.wp
          rw [hrun']
          simp only [Oper.upon]
          refine ih (listed.setIfInBounds i true) (a.put o.dst (c i)) w dn rest A (by simp [hsz]) hcnt' hw hS hdn (fun x hx => by rw [hset]; split; rfl; exact hdl x hx) ?_ ?_ (by rw [put_size, hs]) hs0 hv ho (fun j hj k hk => by rw [hset]; split; rfl; exact hC j hj k hk) ?_
          · intro x hx
            rw [hset, if_neg (fun e => hflsp i hf1 (by rw [← e]; exact hdn.2.2.1 _ hx))]
            exact hrest x hx
          · rw [← hd]; cases o.dst <;> rfl
          · intro t
            by_cases e : dstOf ops i = some t
            · left
              have h2 := hv i hf1
              unfold valAt at h2
              rw [e] at h2
              rw [hdo] at e
              injection e with e
              subst e
              rw [hdo', put_same _ _ _ (by rw [hs, hs0]; exact hdlt)]
              exact h2.symm
            · rw [put_other _ _ _ _ (by rw [hdo', ← hdo]; exact e)]
              rcases hrel t with h3 | ⟨k, hk, h3, h4⟩
              · exact .inl h3
              · refine .inr ⟨k, hk, ?_, h4⟩
                rw [hset, if_neg (fun e2 => e (by rw [← e2]; exact h4))]
                exact h3
        · -- one of the row
          have hs1 : i ∈ sp := by
            rcases hcov i hlt with h | h
            · exact h
            · exact absurd h hf1
          have hir : i ∈ rest := by
            rcases hdn.1 i hs1 with h | h
            · rw [hdl i h] at hui; cases hui
            · exact h
          have hfree : (rest.all fun j => !waitsB ops i j) = true := by
            rw [List.all_eq_true]
            intro j hj
            cases hw2 : waitsB ops i j with
            | false => rfl
            | true =>
              have h1 := hwt j hw2
              rw [hrest j hj] at h1
              cases h1
          have hlen : rest.length = (rest.erase i).length + 1 := by
            rw [List.length_erase_of_mem hir]
            have := List.length_pos_of_mem hir
            omega
          rw [hlen] at hS
          obtain ⟨o3, ho3, hg, hwp⟩ := hS i hir hfree
          rw [hoi] at ho3
          injection ho3 with ho3
          subst ho3
          have hAa : ∀ t ∈ operandsOf ops i, A.tmps.getD t undef = a.tmps.getD t undef := by
            intro t ht
            rcases hrel t with h3 | ⟨k, hk, h3, h4⟩
            · exact h3.symm
            · exfalso
              rcases hso i hs1 t ht k hk with h | h
              · exact absurd h4 (by simpa using h)
              · rw [hwt k h] at h3; cases h3
          unfold wpOp
          rw [hoi]
          simp only [Region.wanted, hg, if_true]
          left
          refine wp_two (hcong A hAa) hwp ?_
          rintro v w' ⟨hw', hS'⟩
          refine ih (listed.setIfInBounds i true) (a.put o.dst v) w' (dn ++ [i]) (rest.erase i) (A.put o.dst v) (by simp [hsz]) hcnt' hw' hS' ⟨fun x hx => by
            rcases hdn.1 x hx with h | h
            · exact .inl (List.mem_append_left _ h)
            · by_cases e : x = i
              · exact .inl (by rw [e]; simp)
              · exact .inr ((List.mem_erase_of_ne e).2 h), fun x hx => by
            rcases List.mem_append.1 hx with h | h
            · exact hdn.2.1 x h
            · have e : x = i := by simpa using h
              rw [e]; exact hs1, fun x hx => hdn.2.2.1 x (List.mem_of_mem_erase hx), hdn.2.2.2.erase i⟩ (fun x hx => by
            rw [hset]
            split
            · rfl
            · rename_i hne
              rcases List.mem_append.1 hx with h | h
              · exact hdl x h
              · exact absurd (by simpa using h) hne) ?_ ?_ (by rw [put_size, put_size, hs]) (by rw [put_size, hs0]) ?_ ?_ ?_ ?_
          · intro x hx
            have hne : x ≠ i := ((List.Nodup.mem_erase_iff hdn.2.2.2).1 hx).1
            rw [hset, if_neg hne]
            exact hrest x (List.mem_of_mem_erase hx)
          · cases o.dst <;> exact hd
          · intro j hj
            rw [← hv j hj]
            unfold valAt
            cases hjd : dstOf ops j with
            | none => rfl
            | some dj =>
              simp only
              refine put_other _ _ _ _ ?_
              rw [hdo']
              intro e
              have hji : j ≠ i := fun e2 => hf1 (by rw [← e2]; exact hj)
              exact hdd j (hfl j hj).1.1.2 hji (by rw [hjd]; exact e.symm)
          · intro t ht ht2
            rw [put_other _ _ _ _ (by rw [hdo', ← hdo]; exact ht i (by simp))]
            exact ho t (fun j hj => ht j (List.mem_append_left _ hj)) ht2
          · intro j hj k hk
            rw [hset]
            split
            · rfl
            · rcases List.mem_append.1 hj with h | h
              · exact hC j h k hk
              · have : j = i := by simpa using h
                subst this
                exact hwt k hk
          · intro t
            by_cases e : o.dst = some t
            · left
              rw [e]
              rw [hdo'] at e
              injection e with e
              subst e
              rw [put_same _ _ _ (by rw [hs, hs0]; exact hdlt), put_same _ _ _ (by rw [hs0]; exact hdlt)]
            · rw [put_other _ _ _ _ e, put_other _ _ _ _ e]
              rcases hrel t with h3 | ⟨k, hk, h3, h4⟩
              · exact .inl h3
              · refine .inr ⟨k, hk, ?_, h4⟩
                rw [hset, if_neg (fun e2 => hf1 (by rw [← e2]; exact hk))]
                exact h3
  refine wp_region_any hm ?_
  refine main ops.size (Array.replicate ops.size false) a0 w0.drew [] sp (putL ops c fl a0) (by simp) ?_ hW fin ⟨fun x hx => .inr hx, fun x hx => (by cases hx), fun x hx => hx, hnd⟩ (fun x hx => by cases hx) ?_ (putL_defers c fl a0).symm (putL_size c fl a0).symm (putL_size c fl a0) hA0 (fun t _ h => hout t h) (fun j hj => by cases hj) ?_
  · exact Nat.le_trans (List.length_filter_le _ _) (by simp)
  · intro i hi
    rw [Array.getD_eq_getD_getElem?, Array.getElem?_eq_getElem (by simpa using hspl i hi)]
    simp
  · intro t
    by_cases e : ∃ j ∈ fl, dstOf ops j = some t
    · obtain ⟨j, hj, hjd⟩ := e
      refine .inr ⟨j, hj, ?_, hjd⟩
      rw [Array.getD_eq_getD_getElem?, Array.getElem?_eq_getElem (by simpa using (hfl j hj).1.1.2)]
      simp
    · left
      exact (slotO fl (List.all_eq_true.2 fun k hk => by
        have : dstOf ops k ≠ some t := fun h => e ⟨k, hk, h⟩
        simpa using this)).symm
/-- region_set, by a list of places, slots and values. -/
theorem region_by_setV {id : Nat} (m : Nat) (sp : List Nat) (fl : List (Nat × Tmp × Value)) (W : World → Prop) (hm : P.follows .mixedOrders = true) (hreg : regVB ops m a0.tmps.size = true) (hmsp : decide (m ∈ sp) = true) (hsp : setB ops sp (fl.map (·.1)) = true)
    (hd : (fl.map fun x => dstOf ops x.1) = fl.map fun x => some x.2.1) (hn : decide ((fl.map (·.1)).Nodup) = true) (hW : W w0.drew)
    (hF : ∀ x ∈ fl, ∀ w ρ, W w → (∀ t, ρ (.tmp t) = (putA fl a0).tmps.getD t undef) → (∀ c, ρ (.const c) = c) → ∃ o, ops[x.1]? = some o ∧ (execOp ρ o).run P w = .ok (.value x.2.2) w)
    (fin : SpineS P ops Q W sp.length sp (putA fl a0) w0.drew) : (Code.region id ops true).wp P Q a0 w0 := by
  have hall : ∀ x ∈ fl, valOf fl x.1 = x.2.2 ∧ dstOf ops x.1 = some x.2.1 := fun x hx => ⟨valOf_mem fl (of_decide_eq_true hn) x hx, by
    obtain ⟨k, hk, rfl⟩ := List.getElem_of_mem hx
    have := congrArg (fun l => l[k]?) hd
    simpa [hk] using this⟩
  have he := putL_putA (ops := ops) (valOf fl) fl a0 hall
  refine region_setV sp (fl.map (·.1)) (valOf fl) W hm hreg (of_decide_eq_true hmsp) hsp hW ?_ (by rw [he]; exact fin)
  intro i hi w hw
  obtain ⟨x, hx, rfl⟩ := List.mem_map.1 hi
  rw [(hall x hx).1, he]
  exact hF x hx w _ hw (fun t => rfl) (fun c => rfl)
end
end Go.Proofs.YtdppnggchpchgaaDoor
