/- graph.Reach. Conditions: lengths. -/
import Derived.Test.YtkkjnahjmomjgaaGrU
import Derived.Deep.LoopGhost
namespace Go.Proofs.Ytkkjnahjmomjgaa
set_option linter.unusedVariables false
set_option linter.unusedSimpArgs false
open Go.RowKit
theorem Ow.shrink {α : Type} {f : α → Value} {E : TypeId} {w : World} {base g n cap : Nat} {xs : List α} {y : α} (h : Ow f E w base (.slice (some ⟨g, 0, none⟩) (n + 1) cap) (xs ++ [y])) : Ow f E w base (.slice (some ⟨g, 0, none⟩) n cap) xs := by
  obtain ⟨h1, h2⟩ := h
  rw [List.length_append, List.length_singleton] at h1 h2
  refine ⟨by simp, ?_⟩
  rcases h2 with ⟨e, _⟩ | ⟨g', cap', cur, e, hg, hh, hnc, hcm, hcs, htk⟩
  · cases e
  · injection e with e1 e2 e3
    subst e3
    have en : n = xs.length := by omega
    subst en
    refine .inr ⟨g', cap, cur, by rw [e1], hg, hh, by omega, hcm, hcs, ?_⟩
    have := congrArg (List.take xs.length) htk
    rw [Nat.mul_one] at this ⊢
    rw [List.take_take, Nat.min_eq_left (by omega)] at this
    rw [this, List.map_append, List.take_append_of_le_length (by simp), List.take_of_length_le (by simp)]
theorem RS.pop {W : World} {s q sb wb n vc ag : Nat} {vn vr : Value} {N : Nat} {seen : List Bool} {work : List Int} {p : Int} (h : RS W s q sb wb vn vr N seen (work ++ [p])) (hk : Bk W wb 49 #[.slice (some ⟨ag, 0, none⟩) (n + 1) vc]) (hn : n = work.length) :
    RS (W.setCell ⟨wb, 0, none⟩ (.slice (some ⟨ag, 0, none⟩) n vc)) s q sb wb vn vr N seen work := by
  obtain ⟨v, h1, h2⟩ := h.wk
  have e : v = .slice (some ⟨ag, 0, none⟩) (n + 1) vc := by
    have := (h1.symm.trans hk)
    injection this with this
    injection this with this
    simpa using this
  subst e
  have hord := h.ord
  refine ⟨h.gb.far (p := ⟨wb, 0, none⟩) (show s ≠ wb by omega) _, h.sbk.far (p := ⟨wb, 0, none⟩) (show sb ≠ wb by omega) _, h.sn.kept (grown_set W ⟨wb, 0, none⟩ _) (.inr (fun e => by injection e with e; have e3 : q = wb := e; omega)), ⟨_, hk.set 0 _, ?_⟩, hord⟩
  exact (Ow.shrink h2).kept (grown_set W ⟨wb, 0, none⟩ _) (.inr (fun e => by injection e with e; have e3 : ag = wb := e; have := (h2.lt ag rfl).1; omega))
set_option maxHeartbeats 2000000
set_option maxRecDepth 100000
theorem reach_c (w : World) (g : Gv) (hg : g.At w w.heap.size) (hs : g.Small) (A : Option Addr) (c : Nat) (fr : List Int) (hr : Rd iV w w.heap.size A fr) (hl : fr.length ≤ 1000000) :
    Calls Try.prog 50 #[g.v, .slice A fr.length c] w fun e w' => ∃ q L, e = .returned (.slice (some ⟨q, 0, none⟩) g.n.length g.n.length) ∧ Ow tV 4 w' (w.heap.size + 1) (.slice (some ⟨q, 0, none⟩) g.n.length g.n.length) L ∧ L.length = g.n.length ∧ (∀ p, hasG g.n.length p = true → (seenG L p = true ↔ Rch g.n fr p)) ∧ Below w.heap.size w w' := by
  have HG := Lib.hid hg
  have HSm := Lib.hid hs.2.2
  have HR := Lib.hid hr
  obtain ⟨GA, ca, A2, ca2, ns, rs⟩ := g
  obtain ⟨N, hN⟩ : ∃ N, N = ns.length := ⟨_, rfl⟩
  obtain ⟨M, hM⟩ : ∃ M, M = rs.length := ⟨_, rfl⟩
  have HN := Lib.hid (And.intro hN hM)
  obtain ⟨F, hF⟩ : ∃ F, F = fr.length := ⟨_, rfl⟩
  have HF := Lib.hid (And.intro hF hl)
  have q0 : (N : Int) ≤ 1000000 := by rw [hN]; exact Int.ofNat_le.2 hs.1
  unfold Gv.v Gv.vn Gv.vr
  simp only
  rw [← hN, ← hM, ← hF]
  clear hg hs hr hl hN hM hF
  go_enter Try.func50, Try.ntmps50
  go_wp2_with (at_make; refine wp_make (f := tV) oneT rfl _ _ rfl false rfl (w.heap.size + 1) N _ _ _ _ rfl rfl rfl rfl (by omega) (by decide) (by simp) ?_; rintro q w2 hq ho2 hb2 _; have H2 := Lib.hid (And.intro ho2 hb2); have HQ := Lib.hid (show q = w.heap.size + 1 from by rw [hq]; simp); have hz2 : w.heap.size + 2 ≤ w2.heap.size := (by have := ho2.ge.2; rw [hq] at this; simp at this; omega); clear ho2 hb2 hq)
  have hS0 : RS ((w2.alloc (.cells #[.slice (some ⟨q, 0, none⟩) N N] 98)).alloc (.cells #[.slice none 0 0] 49)) w.heap.size q w2.heap.size (w2.heap.size + 1) (.slice GA N ca) (.slice A2 M ca2) N (List.replicate N false) [] ∧ Below w.heap.size w ((w2.alloc (.cells #[.slice (some ⟨q, 0, none⟩) N N] 98)).alloc (.cells #[.slice none 0 0] 49)) := by
    obtain ⟨o1, o2⟩ := H2.out
    have hg0 := (Bk.new w 25 #[.slice GA N ca, .slice A2 M ca2]).below o2 (by omega)
    have hqq := HQ.out
    refine ⟨⟨(hg0.alloc _).alloc _, (Bk.new w2 _ _).alloc _, (o1.alloc _).alloc _, ⟨.slice none 0 0, ?_, Ow.nil_ _ _ _ _⟩, by omega⟩, ?_⟩
    · have := Bk.new (w2.alloc (.cells #[.slice (some ⟨q, 0, none⟩) N N] 98)) 49 #[.slice none 0 0]
      simpa using this
    · have b1 : Below w.heap.size w w2 := ((Below.refl _ _).alloc (Nat.le_refl _) _).trans (o2.mono (by omega))
      exact (b1.alloc b1.size _).alloc (by simp; omega) _
  obtain ⟨W3, hW3⟩ : ∃ W3, W3 = ((w2.alloc (.cells #[.slice (some ⟨q, 0, none⟩) N N] 98)).alloc (.cells #[.slice none 0 0] 49)) := ⟨_, rfl⟩
  rw [← hW3] at hS0 ⊢
  clear hW3
  obtain ⟨sb, hsb⟩ : ∃ sb, sb = w2.heap.size := ⟨_, rfl⟩
  rw [← hsb] at hS0 ⊢
  clear hsb
  have HC := Lib.hid (fun W (seen : List Bool) (work : List Int) (h : RS W w.heap.size q sb (sb + 1) (.slice GA N ca) (.slice A2 M ca2) N seen work) (hs : seen.length = N) (A : Option Addr) (c n : Nat) (ps : List Int) (hn : n = ps.length) (hr : Rd iV W w.heap.size A ps) (hl : ps.length ≤ 1000000) (hL : leftG (seen, work) ≤ 4000000) => show Calls Try.prog 84 #[.slice A n c, .pointer (some ⟨w.heap.size, 0, none⟩), .pointer (some ⟨sb, 0, none⟩), .pointer (some ⟨sb + 1, 0, none⟩)] W fun e w' => e = .returned (.tuple #[]) ∧ RS w' w.heap.size q sb (sb + 1) (.slice GA N ca) (.slice A2 M ca2) N (ps.foldl (stepS N) (seen, work)).1 (ps.foldl (stepS N) (seen, work)).2 ∧ Below w.heap.size W w' from by
    rw [hn]
    exact look_c W w.heap.size q sb (sb + 1) GA A2 N ca M ca2 seen work h hs A c ps hr hl hL (by omega))
  have HS0 := Lib.hid hS0
  clear hS0
  have hleft0 : leftG (List.replicate N false, []) ≤ 4000000 := by
    unfold leftG
    have : (List.replicate N false).count false ≤ N := by simp
    simp only [List.length_nil]
    omega
  have HL0 := Lib.hid hleft0
  clear hleft0
  refine Calls.mono (HC.out _ _ _ HS0.out.1 List.length_replicate A c F fr HF.out.1 (HR.out.below HS0.out.2) HF.out.2 HL0.out) ?_
  rintro r w4 ⟨rfl, h4, b4⟩
  have hstart := steps_inv fr (List.replicate ns.length false, []) (inv_start ns fr) (fun q hq hh => .base q hq hh)
  rw [← HN.out.1] at hstart
  have hlf4 : leftG (fr.foldl (stepS N) (List.replicate N false, [])) ≤ 4000000 := Nat.le_trans (steps_left _ _ List.length_replicate) HL0.out
  obtain ⟨st, hst⟩ : ∃ st, st = fr.foldl (stepS N) (List.replicate N false, []) := ⟨_, rfl⟩
  rw [← hst] at h4 hstart hlf4
  have HI := Lib.hid (And.intro hstart.1 hstart.2.1)
  have H4 := Lib.hid (And.intro h4 (And.intro (HS0.out.2.trans b4) hlf4))
  clear h4 b4 hstart hst hlf4 HS0
  go_wp2_with fail
  go_loopg [8] (leftG st) (fun gk p W => ∃ (seen : List Bool) (work : List Int), Hid (RS W w.heap.size q sb (sb + 1) (.slice GA N ca) (.slice A2 M ca2) N seen work) ∧ Hid (Inv ns fr seen work (fun _ => False) ∧ ∀ q ∈ fr, hasG N q = true → seenG seen q = true) ∧ Hid (leftG (seen, work) = gk ∧ gk ≤ 4000000) ∧ Hid (Below w.heap.size w W))
  case atStart => exact ⟨st.1, st.2, Lib.hid H4.out.1, Lib.hid HI.out, Lib.hid ⟨rfl, H4.out.2.2⟩, Lib.hid H4.out.2.1⟩
  case round =>
    obtain ⟨seen, work, hS, hI, hL, hB⟩ := hrel
    rcases List.eq_nil_or_concat work with rfl | ⟨init, p, rfl⟩
    · obtain ⟨v, k1, k2⟩ := hS.out.wk
      obtain ⟨VA, vc, rfl, _⟩ := k2.form
      have k10 : wr.cell? ⟨sb + 1, 0, none⟩ = some (.slice VA 0 vc) := k1.cell 0
      have s0 : wr.cell? ⟨sb, 0, none⟩ = some (.slice (some ⟨q, 0, none⟩) N N) := hS.out.sbk.cell 0
      clear k1 k2
      go_wp2_with fail
      go_ret
      have hend := inv_end hI.out.1 (by rw [← HN.out.1]; exact hI.out.2)
      refine ⟨q, seen, rfl, hS.out.sn, by rw [HN.out.1]; exact hI.out.1.len, fun p hp => ?_, hB.out⟩
      rw [HN.out.1] at hp
      exact hend p hp
    · rw [List.concat_eq_append] at hS hI hL
      have hp := hI.out.1.has p (by simp)
      obtain ⟨j, rfl, hj⟩ : ∃ j : Nat, p = (j : Int) + 1 ∧ j < N := by
        have := hasG_iff.1 hp.1
        rw [← HN.out.1] at this
        exact ⟨(p - 1).toNat, by omega, by omega⟩
      have hjl : j < ns.length := by rw [← HN.out.1]; exact hj
      obtain ⟨x, hx⟩ : ∃ x, x = ns[j] := ⟨_, rfl⟩
      have hpx : ptrsG ns ((j : Int) + 1) = x.ps := by
        unfold ptrsG
        rw [show ((j : Int) + 1 - 1).toNat = j by omega, List.getElem?_eq_getElem hjl, ← hx]
      have hround := inv_round hI.out.1
      rw [hpx, ← HN.out.1] at hround
      obtain ⟨n, hn⟩ : ∃ n, n = init.length := ⟨_, rfl⟩
      obtain ⟨v, k1, k2⟩ := hS.out.wk
      obtain ⟨ag, vc, rfl, hvc, hlast⟩ : ∃ ag vc, v = .slice (some ⟨ag, 0, none⟩) (n + 1) vc ∧ n + 1 ≤ vc ∧ wr.cell? ⟨ag, n, none⟩ = some (.int .i64 ((j : Int) + 1)) := by
        have k3 := k2
        rcases k2.2 with ⟨e, hn0⟩ | ⟨ag, cap, cur, e, _, _, h1, _⟩
        · simp at hn0
        · rw [List.length_append, List.length_singleton, ← hn] at h1 e
          refine ⟨ag, cap, e, h1, ?_⟩
          rw [e] at k3
          have := k3.cell (j := n) (by rw [List.length_append, ← hn]; simp)
          rw [this, List.getElem_append_right (by omega)]
          simp [iV, hn]
      obtain ⟨ad, rfl, hc2, hxa⟩ : ∃ ad, GA = some ad ∧ wr.cell? (ad.add (j * 2)) = some x.vp ∧ x.At wr w.heap.size := by
        obtain ⟨ad, e, _, h1, h2, h3⟩ := (HG.out.n.below hB.out) j hjl
        exact ⟨ad, e, by rw [hx]; exact h1, by rw [hx]; exact h3⟩
      have hsm := (HSm.out x (by rw [hx]; exact List.getElem_mem _)).1
      have hlft : leftG (seen, init) < gk ∧ leftG (seen, init) ≤ 4000000 := by
        have := hL.out
        unfold leftG at this ⊢
        simp only [List.length_append, List.length_singleton] at this ⊢
        omega
      have hS2 := hS.out.pop k1 hn
      have HP := Lib.hid (And.intro hround (And.intro hlft (And.intro hS2 (And.intro hxa (And.intro hsm hI.out)))))
      have k10 : wr.cell? ⟨sb + 1, 0, none⟩ = some (.slice (some ⟨ag, 0, none⟩) (n + 1) vc) := k1.cell 0
      have k1f := k1.free 0
      have g0 := hS.out.gb.two.1
      have hgne : ¬ w.heap.size = sb + 1 := by have := hS.out.ord; omega
      have hgne2 : ¬ sb + 1 = w.heap.size := by omega
      have hane : ¬ sb + 1 = ad.block := fun e => by
        obtain ⟨ad', e1, h2, _⟩ := HG.out.n j hjl
        injection e1 with e1
        have := hS.out.ord
        rw [← e1] at h2
        omega
      have hbsz : (ad.add (j * 2)).block < w.heap.size := by
        obtain ⟨ad', e1, h2, _⟩ := HG.out.n j hjl
        injection e1 with e1
        rw [add_block, e1]
        exact h2
      have hc2' : (wr.setCell ⟨sb + 1, 0, none⟩ (.slice (some ⟨ag, 0, none⟩) n vc)).cell? (ad.add (j * 2)) = some x.vp := by
        rw [World.cell?_setCell_other wr ⟨sb + 1, 0, none⟩ (ad.add (j * 2)) _ (fun e => by
          have h1 := hS.out.ord
          have h2 : sb + 1 = (ad.add (j * 2)).block := congrArg Addr.block e
          omega)]
        exact hc2
      obtain ⟨xA, xc, xD, xd, xps, xbs⟩ := x
      unfold Nv.vp at hc2 hc2'
      simp only at hc2 hc2' HP
      obtain ⟨xn, hxn⟩ : ∃ n, n = xps.length := ⟨_, rfl⟩
      rw [← hxn] at hc2 hc2'
      have HXn := Lib.hid hxn
      have HVC := Lib.hid (And.intro hvc hjl)
      have u1 : (n : Int) + 1 ≤ (vc : Int) := by omega
      have u2 : (0 : Int) ≤ (n : Int) := by omega
      have u3 : (j : Int) < (N : Int) := by omega
      have u4 : (0 : Int) ≤ (j : Int) := by omega
      have u5' : (n : Int) ≤ 5000000 := by have := hL.out; unfold leftG at this; simp at this; omega
      clear hp hj hjl hx hpx hround hn k1 k2 hvc hxa hsm hlft hS2 hxn hc2
      go_wp2_with fail
      obtain ⟨r1, r2, r3, r4, r5, r6⟩ := HP.out
      refine Calls.mono (HC.out _ seen init r3 (by rw [HN.out.1]; exact r6.1.len) xA xc xn xps HXn.out (r4.p.below (((Below.refl _ _).setCell (p := ⟨sb + 1, 0, none⟩) (show w.heap.size ≤ sb + 1 by have := hS.out.ord; omega) _))) r5 r2.2) ?_
      rintro r w6 ⟨rfl, h6, b6⟩
      have H6 := Lib.hid (And.intro h6 (And.intro ((hB.out.setCell (p := ⟨sb + 1, 0, none⟩) (show w.heap.size ≤ sb + 1 by have := hS.out.ord; omega) _).trans b6) (show leftG (xps.foldl (stepS N) (seen, init)) < gk ∧ leftG (xps.foldl (stepS N) (seen, init)) ≤ 4000000 from by
        have := steps_left (N := N) xps (seen, init) (by rw [HN.out.1]; exact r6.1.len)
        omega)))
      have HRd := Lib.hid (And.intro r1.1 (fun q hq hh => r1.2 q hh (r6.2 q hq hh)))
      clear h6 b6 r1 r2 r3 r4 r5 r6 k10 k1f g0 hlast hc2'
      go_wp2_with fail
      go_roundg (leftG (xps.foldl (stepS N) (seen, init)))
      case measure => exact H6.out.2.2.1
      case rel => exact ⟨_, _, Lib.hid H6.out.1, Lib.hid HRd.out, Lib.hid ⟨rfl, H6.out.2.2.2⟩, Lib.hid H6.out.2.1⟩
end Go.Proofs.Ytkkjnahjmomjgaa
