/- graph.Check. Conditions: lengths. -/
import Derived.Test.YtkkjnahjmomjgaaGrB
import Derived.Laws.Cover1
namespace Go.Proofs.Ytkkjnahjmomjgaa
set_option linter.unusedVariables false
set_option linter.unusedSimpArgs false
open Go.RowKit
def leS (a b : ByteArray) : Bool := Op.bytesLess a.toList b.toList || a.toList == b.toList
def ckNodes (N : Nat) : List Nv → Int
  | [] => 0
  | x :: r => if ckNode N x = 0 then ckNodes N r else ckNode N x
def ckRoots (N : Nat) : ByteArray → List Rv → Int
  | _, [] => 0
  | last, r :: l => if goodS r.s = true ∧ leS r.s last = false then (if okP N r.t = true then ckRoots N r.s l else 1) else 4
def emptyS : ByteArray := { data := #[] }
def ckG (g : Gv) : Int := if ckNodes g.n.length g.n = 0 then (if 64 < g.r.length then 3 else ckRoots g.n.length emptyS g.r) else ckNodes g.n.length g.n
theorem ckNodes_drop (N : Nat) (l : List Nv) (k : Nat) (h : k < l.length) : ckNodes N (l.drop k) = if ckNode N l[k] = 0 then ckNodes N (l.drop (k + 1)) else ckNode N l[k] := by
  rw [List.drop_eq_getElem_cons h]; rfl
theorem ckRoots_drop (N : Nat) (s : ByteArray) (l : List Rv) (k : Nat) (h : k < l.length) : ckRoots N s (l.drop k) = if goodS (l[k]).s = true ∧ leS (l[k]).s s = false then (if okP N (l[k]).t = true then ckRoots N (l[k]).s (l.drop (k + 1)) else 1) else 4 := by
  rw [List.drop_eq_getElem_cons h]; rfl
set_option maxHeartbeats 1000000
set_option maxRecDepth 100000
theorem check_c (w : World) (g : Gv) (hg : g.At w w.heap.size) (hs : g.Small) : Calls Try.prog 22 #[g.v] w (RetP (.int .i64 (ckG g)) w) := by
  obtain ⟨R, hR⟩ : ∃ R, R = ckG g := ⟨_, rfl⟩
  rw [← hR]
  have HR := Lib.hid hR
  have HG := Lib.hid hg
  have HSm := Lib.hid hs.2.2
  obtain ⟨A, ca, A2, ca2, ns, rs⟩ := g
  obtain ⟨N, hN⟩ : ∃ N, N = ns.length := ⟨_, rfl⟩
  obtain ⟨M, hM⟩ : ∃ M, M = rs.length := ⟨_, rfl⟩
  have HN := Lib.hid hN
  have HM := Lib.hid hM
  have q0 : (N : Int) ≤ 1000000 := by rw [hN]; exact Int.ofNat_le.2 hs.1
  have q1 : (M : Int) ≤ 1000000 := by rw [hM]; exact Int.ofNat_le.2 hs.2.1
  unfold Gv.v Gv.vn Gv.vr
  simp only
  rw [← hN, ← hM]
  have HCk := Lib.hid (fun W x (hx : x.At W W.heap.size) (hl : x.ps.length ≤ 1000000) => checkNode_c W A A2 N ca M ca2 x hx hl)
  have HHas := Lib.hid (fun W p => has_c W A A2 N ca M ca2 p)
  have HNm := Lib.hid (fun s W => named_c s W)
  clear hR hg hs hN hM
  go_enter Try.func22, Try.ntmps22
  go_wp2_with fail
  go_loopw [12] (fun i W => ∃ k : Nat, i = .int .i64 k ∧ k ≤ N ∧ Hid (ckNodes N (ns.drop k) = ckNodes N ns) ∧ Bk W w.heap.size 25 #[.slice A N ca, .slice A2 M ca2] ∧ Below w.heap.size w W) (fun i _ => N - (intOf i).toNat)
  case atStart => exact ⟨0, rfl, Nat.zero_le _, Lib.hid rfl, Bk.new _ _ _, (by repeat (first | with_reducible assumption | with_reducible exact Below.refl _ _ | with_reducible apply bdN | with_reducible apply Below.drew | with_reducible refine Below.alloc ?_ (by simp) _ | with_reducible refine Below.setCell ?_ (by simp) _))⟩
  case round =>
    obtain ⟨k, rfl, hk, hck, hb1, hB⟩ := hrel
    have c0 := hb1.two.1
    have hsz := hb1.lt
    have c1 := hb1.two.2
    by_cases hlt : k < N
    · have hkl : k < ns.length := by rw [← HN.out]; exact hlt
      obtain ⟨x, hx⟩ : ∃ x, x = ns[k] := ⟨_, rfl⟩
      obtain ⟨ad, rfl, hc2, hc3, hxa⟩ : ∃ ad, A = some ad ∧ wr.cell? (ad.add (k * 2)) = some x.vp ∧ wr.cell? ⟨(ad.add (k * 2)).block, (ad.add (k * 2)).off + 1, none⟩ = some x.vd ∧ x.At wr wr.heap.size := by
        obtain ⟨ad, e, _, h1, h2, h3⟩ := (HG.out.n.below hB) k hkl
        exact ⟨ad, e, by rw [hx]; exact h1, by rw [hx]; exact h2, by rw [hx]; exact h3.more hB.size⟩
      have HS := Lib.hid (ckNodes_drop N ns k hkl)
      rw [← hx] at HS
      have hxl : x.ps.length ≤ 1000000 := by
        have := (HSm.out x (by rw [hx]; exact List.getElem_mem _)).1
        exact this
      have HXA := Lib.hid (And.intro hxa hxl)
      have p1 : (0 : Int) ≤ (k : Int) := by omega
      have p2 : (k : Int) < (N : Int) := by omega
      have HBB := Lib.hid (And.intro hb1 hB)
      clear hx hb1 hB hkl hxa hxl
      obtain ⟨xA, xc, xD, xd, xps, xbs⟩ := x
      obtain ⟨xn, hxn⟩ : ∃ n, n = xps.length := ⟨_, rfl⟩
      obtain ⟨xm, hxm⟩ : ∃ n, n = xbs.length := ⟨_, rfl⟩
      unfold Nv.vp at hc2
      unfold Nv.vd at hc3
      simp only at hc2 hc3
      have HC := Lib.hid (fun W h1 h2 => HCk.out W ⟨xA, xc, xD, xd, xps, xbs⟩ h1 h2)
      unfold Nv.v Nv.vp Nv.vd at HC
      simp only at HC
      rw [← hxn] at hc2 HC
      rw [← hxm] at hc3 HC
      have HXN := Lib.hid (And.intro hxn hxm)
      obtain ⟨z, hz⟩ : ∃ z, z = ckNode N ⟨xA, xc, xD, xd, xps, xbs⟩ := ⟨_, rfl⟩
      rw [← hz] at HC HS
      clear hxn hxm hz
      go_wp2_with fail
      refine Calls.mono (HC.out _ (HXA.out.1.up (Gw.alloc wr _)) (by rw [HXN.out.1]; exact HXA.out.2)) ?_
      rintro r w2 ⟨rfl, b2⟩
      have b3 : Below wr.heap.size wr w2 := (Gw.alloc wr _).trans (b2.mono (by simp))
      have HB2 := Lib.hid (And.intro (HBB.out.1.below b3 hsz) (HBB.out.2.trans (b3.mono HBB.out.2.size)))
      clear b2 b3 HC
      by_cases hz0 : z = 0
      · subst hz0
        go_wp2_with fail
        go_roundw
        case rel =>
          refine ⟨k + 1, by go_num, by omega, Lib.hid ?_, HB2.out⟩
          rw [← hck.out]
          exact (HS.out.trans (by simp)).symm
        case measure => (first | (simp [intOf]; done) | (simp [intOf]; omega))
      · have t1 : (z != 0) = true := by simp [hz0]
        have hRz : R = z := by
          rw [HR.out]
          have e : ckNodes N ns = z := by rw [← hck.out, HS.out, if_neg hz0]
          show (if ckNodes ns.length ns = 0 then _ else ckNodes ns.length ns) = z
          rw [← HN.out, e, if_neg hz0]
        have HRz := Lib.hid hRz
        clear hRz hz0
        go_wp2_with fail
        go_ret
        rw [HRz.out]
        exact ⟨rfl, HB2.out.2⟩
    · have hkN : k = N := by omega
      have hck0 : ckNodes N ns = 0 := by
        rw [← hck.out, hkN, HN.out, List.drop_length]; rfl
      have hR2 : R = if 64 < M then 3 else ckRoots N emptyS rs := by
        rw [HR.out]
        show (if ckNodes ns.length ns = 0 then (if 64 < rs.length then 3 else ckRoots ns.length emptyS rs) else _) = _
        rw [← HN.out, if_pos hck0, HM.out]
      have HB1 := Lib.hid (And.intro hb1 hB)
      clear hkN hck0 hck hb1 hB
      by_cases h1 : 64 < M
      · rw [if_pos h1] at hR2
        have HR2 := Lib.hid hR2
        have t1 : decide ((64 : Int) < (M : Int)) = true := by simp; omega
        clear hR2 h1
        go_wp2_with fail
        go_ret
        rw [HR2.out]
        exact ⟨rfl, HB1.out.2⟩
      · rw [if_neg h1] at hR2
        have HR2 := Lib.hid hR2
        have t1 : decide ((64 : Int) < (M : Int)) = false := by simp; omega
        clear hR2 h1
        go_wp2_with fail
        go_loopw [6, 30] (fun l i W => ∃ (k : Nat) (last : ByteArray), i = .int .i64 k ∧ l = .string last ∧ k ≤ M ∧ Hid (R = ckRoots N last (rs.drop k)) ∧ Bk W w.heap.size 25 #[.slice A N ca, .slice A2 M ca2] ∧ Below w.heap.size w W) (fun _ i _ => M - (intOf i).toNat)
        case atStart => exact ⟨0, emptyS, rfl, rfl, Nat.zero_le _, Lib.hid HR2.out, HB1.out⟩
        case round =>
          obtain ⟨k, last, rfl, rfl, hk, hck, hb1, hB⟩ := hrel
          have c0 := hb1.two.1
          have hsz := hb1.lt
          have c1 := hb1.two.2
          have HB3 := Lib.hid (And.intro hb1 hB)
          by_cases hlt : k < M
          · have hkl : k < rs.length := by rw [← HM.out]; exact hlt
            obtain ⟨x, hx⟩ : ∃ x, x = rs[k] := ⟨_, rfl⟩
            obtain ⟨ad, rfl, hc2, hc3⟩ : ∃ ad, A2 = some ad ∧ wr.cell? (ad.add (k * 2)) = some (.string x.s) ∧ wr.cell? ⟨(ad.add (k * 2)).block, (ad.add (k * 2)).off + 1, none⟩ = some (.int .i64 x.t) := by
              obtain ⟨ad, e, _, h1, h2⟩ := (HG.out.r.below hB) k hkl
              exact ⟨ad, e, by rw [hx]; exact h1, by rw [hx]; exact h2⟩
            have HS := Lib.hid (hck.out.trans (ckRoots_drop N last rs k hkl))
            rw [← hx] at HS
            obtain ⟨s, t⟩ := x
            simp only at hc2 hc3 HS
            have p1 : (0 : Int) ≤ (k : Int) := by omega
            have p2 : (k : Int) < (M : Int) := by omega
            have HNs := Lib.hid (HNm.out s)
            obtain ⟨q, hq⟩ : ∃ q, q = goodS s := ⟨_, rfl⟩
            rw [← hq] at HNs HS
            clear hx hb1 hB hkl hck hq
            cases q with
            | false =>
              have HR3 : Hid (R = 4) := Lib.hid (HS.out.trans (if_neg (by simp)))
              go_wp2_with fail
              refine Calls.mono (HNs.out _) ?_
              rintro r w2 ⟨rfl, rfl⟩
              go_wp2_with fail
              go_ret
              rw [HR3.out]
              exact ⟨rfl, HB3.out.2.alloc HB3.out.2.size _⟩
            | true =>
              obtain ⟨y, hy⟩ : ∃ y, y = leS s last := ⟨_, rfl⟩
              rw [← hy] at HS
              have hy2 : (Op.bytesLess s.toList last.toList || s.toList == last.toList) = y := hy.symm
              clear hy
              cases y with
              | true =>
                have HR3 : Hid (R = 4) := Lib.hid (HS.out.trans (if_neg (by simp)))
                go_wp2_with fail
                refine Calls.mono (HNs.out _) ?_
                rintro r w2 ⟨rfl, rfl⟩
                go_wp2_with fail
                go_ret
                rw [HR3.out]
                exact ⟨rfl, HB3.out.2.alloc HB3.out.2.size _⟩
              | false =>
                have HR3 := Lib.hid (HS.out.trans (if_pos (by simp)))
                clear HS
                by_cases h0 : t = 0
                · subst h0
                  have HR4 : Hid (R = ckRoots N s (rs.drop (k + 1))) := Lib.hid (HR3.out.trans (if_pos rfl))
                  go_wp2_with fail
                  refine Calls.mono (HNs.out _) ?_
                  rintro r w2 ⟨rfl, rfl⟩
                  go_wp2_with fail
                  go_roundw
                  case rel => exact ⟨k + 1, s, by go_num, rfl, by omega, HR4, HB3.out.1.alloc _, HB3.out.2.alloc HB3.out.2.size _⟩
                  case measure => (first | (simp [intOf]; done) | (simp [intOf]; omega))
                · have t1 : (t != 0) = true := by simp [h0]
                  have hok : okP N t = hasG N t := by unfold okP; simp [h0]
                  obtain ⟨z, hz⟩ : ∃ z, z = hasG N t := ⟨_, rfl⟩
                  have HQ := Lib.hid (fun W => HHas.out W t)
                  rw [hok, ← hz] at HR3
                  rw [← hz] at HQ
                  clear hz h0 hok
                  cases z with
                  | true =>
                    have HR4 : Hid (R = ckRoots N s (rs.drop (k + 1))) := Lib.hid (HR3.out.trans (if_pos rfl))
                    go_wp2_with fail
                    refine Calls.mono (HNs.out _) ?_
                    rintro r w2 ⟨rfl, rfl⟩
                    go_wp2_with fail
                    refine Calls.mono (HQ.out _) ?_
                    rintro r w2 ⟨rfl, b2⟩
                    have b3 : Below wr.heap.size wr w2 := (Gw.alloc wr _).trans (b2.mono (by simp))
                    have hk2 := Bk.new wr 56 #[.string s, .int .i64 t]
                    have hk3 := hk2.below b2 hk2.lt
                    have e0 := hk3.two.1
                    have e1 := hk3.two.2
                    have HB4 := Lib.hid (And.intro (HB3.out.1.below b3 hsz) (HB3.out.2.trans (b3.mono HB3.out.2.size)))
                    clear b2 b3 hk2 hk3
                    go_wp2_with fail
                    go_roundw
                    case rel => exact ⟨k + 1, s, by go_num, rfl, by omega, HR4, HB4.out⟩
                    case measure => (first | (simp [intOf]; done) | (simp [intOf]; omega))
                  | false =>
                    have HR4 : Hid (R = 1) := Lib.hid (HR3.out.trans (if_neg (by simp)))
                    go_wp2_with fail
                    refine Calls.mono (HNs.out _) ?_
                    rintro r w2 ⟨rfl, rfl⟩
                    go_wp2_with fail
                    refine Calls.mono (HQ.out _) ?_
                    rintro r w2 ⟨rfl, b2⟩
                    have b3 : Below wr.heap.size wr w2 := (Gw.alloc wr _).trans (b2.mono (by simp))
                    have HB4 := Lib.hid (HB3.out.2.trans (b3.mono HB3.out.2.size))
                    clear b2 b3
                    go_wp2_with fail
                    go_ret
                    rw [HR4.out]
                    exact ⟨rfl, HB4.out⟩
          · have hR0 : R = 0 := by
              rw [hck.out, show k = rs.length by rw [← HM.out]; omega, List.drop_length]; rfl
            have HR0 := Lib.hid hR0
            clear hR0 hck hb1 hB
            go_wp2_with fail
            go_ret
            rw [HR0.out]
            exact ⟨rfl, HB3.out.2⟩
end Go.Proofs.Ytkkjnahjmomjgaa
