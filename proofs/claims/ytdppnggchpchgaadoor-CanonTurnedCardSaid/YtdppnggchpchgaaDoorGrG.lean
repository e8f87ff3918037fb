/- graph.sameNode, graph.Equal. Conditions: lengths. -/
import Derived.Test.YtdppnggchpchgaaDoorGrF
import Derived.Test.YtdppnggchpchgaaDoorEqlB
import Derived.Test.YtdppnggchpchgaaDoorCrcD
namespace Go.Proofs.YtdppnggchpchgaaDoor
set_option linter.unusedVariables false
set_option linter.unusedSimpArgs false
open Go.RowKit
def Nv.m (x : Nv) : List Int × List (BitVec 8) := (x.ps, x.bs)
def sameN (x y : Nv) : Bool := decide (x.m = y.m)
def sameNs (xs ys : List Nv) : Bool := decide (xs.map Nv.m = ys.map Nv.m)
def sameG (a b : Gv) : Bool := sameR a.r b.r && sameNs a.n b.n
set_option maxHeartbeats 1000000
set_option maxRecDepth 100000
theorem sameNode_c (w : World) (x y : Nv) (hx : x.At w w.heap.size) (hy : y.At w w.heap.size) (hl : x.ps.length ≤ 1000000) : Calls Tryd.prog 38 #[x.v, y.v] w (RetP (.bool (sameN x y)) w) := by
  have HEi := Lib.hid (fun W (hb : Below w.heap.size w W) => eqi_c W x.A y.A x.c y.c x.ps y.ps ((hx.p.below hb).more hb.size) ((hy.p.below hb).more hb.size) hl)
  have HEb := Lib.hid (fun W (hb : Below w.heap.size w W) => equal_c x.D y.D x.d y.d x.bs y.bs W ((hx.b.below hb).more hb.size) ((hy.b.below hb).more hb.size))
  obtain ⟨A, ca, D, da, ps, bs⟩ := x
  obtain ⟨A2, ca2, D2, da2, ps2, bs2⟩ := y
  unfold sameN Nv.m Nv.v Nv.vp Nv.vd
  simp only at HEi HEb ⊢
  obtain ⟨n, hn⟩ : ∃ n, n = ps.length := ⟨_, rfl⟩
  obtain ⟨m, hm⟩ : ∃ m, m = bs.length := ⟨_, rfl⟩
  obtain ⟨n2, hn2⟩ : ∃ n, n = ps2.length := ⟨_, rfl⟩
  obtain ⟨m2, hm2⟩ : ∃ m, m = bs2.length := ⟨_, rfl⟩
  rw [← hn, ← hn2] at HEi
  rw [← hm, ← hm2] at HEb
  rw [← hn, ← hn2, ← hm, ← hm2]
  by_cases e1 : ps = ps2
  · have e2 : decide (ps = ps2) = true := by simp [e1]
    rw [e2] at HEi
    have e3 : decide ((ps, bs) = (ps2, bs2)) = decide (bs = bs2) := by simp [e1]
    rw [e3]
    clear hx hy hl hn hm hn2 hm2 e1 e2 e3
    obtain ⟨r, hr⟩ : ∃ r, r = decide (bs = bs2) := ⟨_, rfl⟩
    rw [← hr] at HEb ⊢
    clear hr
    go_enter Tryd.func38, Tryd.ntmps38
    go_wp2_with fail
    refine Calls.mono (HEi.out _ (by repeat (first | with_reducible assumption | with_reducible exact Below.refl _ _ | with_reducible apply bdN | with_reducible apply Below.drew | with_reducible refine Below.alloc ?_ (by simp) _ | with_reducible refine Below.setCell ?_ (by simp) _))) ?_
    rintro r1 w1 ⟨rfl, b1⟩
    have hb := Lib.hid (boxed2 (k := 0) b1)
    obtain ⟨k1, k2, k3⟩ := hb.out
    have c0 := k1.two.2
    have c1 := k2.two.2
    have K3 := Lib.hid k3
    clear b1 k1 k2 k3 hb
    go_wp2_with fail
    refine Calls.mono (HEb.out _ K3.out) ?_
    rintro r2 w2 ⟨rfl, rfl⟩
    go_wp2_with fail
    go_ret
    exact ⟨rfl, K3.out⟩
  · have e2 : decide (ps = ps2) = false := by simp [e1]
    rw [e2] at HEi
    have e3 : decide ((ps, bs) = (ps2, bs2)) = false := by simp [e1]
    rw [e3]
    clear hx hy hl hn hm hn2 hm2 e1 e2 e3
    go_enter Tryd.func38, Tryd.ntmps38
    go_wp2_with fail
    refine Calls.mono (HEi.out _ (by repeat (first | with_reducible assumption | with_reducible exact Below.refl _ _ | with_reducible apply bdN | with_reducible apply Below.drew | with_reducible refine Below.alloc ?_ (by simp) _ | with_reducible refine Below.setCell ?_ (by simp) _))) ?_
    rintro r1 w1 ⟨rfl, b1⟩
    have hb := Lib.hid (boxed2 (k := 0) b1)
    have K3 := Lib.hid hb.out.2.2
    clear b1 hb
    go_wp2_with fail
    go_ret
    exact ⟨rfl, K3.out⟩
theorem sameNs_iff {xs ys : List Nv} : sameNs xs ys = true ↔ xs.map Nv.m = ys.map Nv.m := by unfold sameNs; exact decide_eq_true_iff
theorem sameNs_no {xs ys : List Nv} : sameNs xs ys = false ↔ ¬ xs.map Nv.m = ys.map Nv.m := by unfold sameNs; exact decide_eq_false_iff_not
theorem eqf_c (w : World) (A A2 : Option Addr) (c c2 : Nat) (xs ys : List Nv) (hr : NRow w w.heap.size A xs) (hr2 : NRow w w.heap.size A2 ys) (hl : xs.length ≤ 1000000) (hs : ∀ x ∈ xs, x.ps.length ≤ 1000000) : Calls Tryd.prog 37 #[.slice A xs.length c, .slice A2 ys.length c2, .func (.func 38) #[] #[]] w (RetP (.bool (sameNs xs ys)) w) := by
  obtain ⟨N, hN⟩ : ∃ N, N = xs.length := ⟨_, rfl⟩
  obtain ⟨M, hM⟩ : ∃ M, M = ys.length := ⟨_, rfl⟩
  have HN := Lib.hid (And.intro hN hM)
  have HR := Lib.hid hr
  have HR2 := Lib.hid hr2
  have HSm := Lib.hid hs
  have q3 : (N : Int) ≤ 1000000 := by omega
  rw [← hN, ← hM]
  by_cases he : N = M
  · subst he
    have HNe := Lib.hid (And.intro hN hM)
    clear hN hM hr hr2 hl HN hs
    obtain ⟨R, hRR⟩ : ∃ R, R = sameNs xs ys := ⟨_, rfl⟩
    have HRR := Lib.hid hRR
    rw [← hRR]
    clear hRR
    go_enter Tryd.func37, Tryd.ntmps37
    go_wp2_with fail
    go_loopw [17] (fun i wr => ∃ k : Nat, k ≤ N ∧ i = .int .i64 k ∧ Hid ((xs.map Nv.m).take k = (ys.map Nv.m).take k) ∧ Below w.heap.size w wr) (fun i _ => N - (intOf i).toNat)
    case atStart => exact ⟨0, by omega, rfl, Lib.hid rfl, Below.refl _ _⟩
    case round =>
      obtain ⟨k, hk, rfl, ht, hB⟩ := hrel
      by_cases hlt : k < N
      · have p1 : (0 : Int) ≤ (k : Int) := by omega
        have p2 : (k : Int) < (N : Int) := by omega
        have h1 : k < xs.length := by rw [← HNe.out.1]; exact hlt
        have h2 : k < ys.length := by rw [← HNe.out.2]; exact hlt
        obtain ⟨x, hx⟩ : ∃ y, y = xs[k] := ⟨_, rfl⟩
        obtain ⟨y, hy⟩ : ∃ y, y = ys[k] := ⟨_, rfl⟩
        obtain ⟨ad, rfl, hcl, hcl', hxa⟩ : ∃ ad, A = some ad ∧ wr.cell? (ad.add (k * 2)) = some x.vp ∧ wr.cell? ⟨(ad.add (k * 2)).block, (ad.add (k * 2)).off + 1, none⟩ = some x.vd ∧ x.At wr wr.heap.size := by
          obtain ⟨ad, e, h3, h1, h2, h4⟩ := (HR.out.below hB) k h1
          exact ⟨ad, e, by rw [hx]; exact h1, by rw [hx]; exact h2, by rw [hx]; exact h4.more hB.size⟩
        obtain ⟨ad2, rfl, hcl2, hcl2', hya⟩ : ∃ ad, A2 = some ad ∧ wr.cell? (ad.add (k * 2)) = some y.vp ∧ wr.cell? ⟨(ad.add (k * 2)).block, (ad.add (k * 2)).off + 1, none⟩ = some y.vd ∧ y.At wr wr.heap.size := by
          obtain ⟨ad, e, h3, h1, h2, h4⟩ := (HR2.out.below hB) k h2
          exact ⟨ad, e, by rw [hy]; exact h1, by rw [hy]; exact h2, by rw [hy]; exact h4.more hB.size⟩
        have hsz := hB.size
        have hxl := HSm.out x (by rw [hx]; exact List.getElem_mem _)
        have HC := Lib.hid (fun W (hb : Below wr.heap.size wr W) => sameNode_c W x y (hxa.up hb) (hya.up hb) hxl)
        have hnx : sameN x y = true → (xs.map Nv.m).take (k + 1) = (ys.map Nv.m).take (k + 1) := fun e => by
          refine take_eq_succ (by simpa using h1) (by simpa using h2) ht.out ?_
          rw [List.getElem_map, List.getElem_map, ← hx, ← hy]
          exact decide_eq_true_iff.1 e
        have hno : sameN x y = false → R = false := fun e => by
          rw [HRR.out, sameNs_no]
          intro e2
          have e3 : (xs.map Nv.m)[k]? = (ys.map Nv.m)[k]? := by rw [e2]
          rw [List.getElem?_map, List.getElem?_map, List.getElem?_eq_getElem h1, List.getElem?_eq_getElem h2, ← hx, ← hy] at e3
          exact decide_eq_false_iff_not.1 e (by simpa using e3)
        have HNX := Lib.hid (And.intro hnx hno)
        obtain ⟨r, hr⟩ : ∃ r, r = sameN x y := ⟨_, rfl⟩
        rw [← hr] at HC HNX
        obtain ⟨xA, xc, xD, xd, xps, xbs⟩ := x
        obtain ⟨yA, yc, yD, yd, yps, ybs⟩ := y
        unfold Nv.v Nv.vp Nv.vd at HC
        unfold Nv.vp at hcl hcl2
        unfold Nv.vd at hcl' hcl2'
        simp only at HC hcl hcl2 hcl' hcl2'
        obtain ⟨n1, hn1⟩ : ∃ n, n = xps.length := ⟨_, rfl⟩
        obtain ⟨n2, hn2⟩ : ∃ n, n = xbs.length := ⟨_, rfl⟩
        obtain ⟨n3, hn3⟩ : ∃ n, n = yps.length := ⟨_, rfl⟩
        obtain ⟨n4, hn4⟩ : ∃ n, n = ybs.length := ⟨_, rfl⟩
        rw [← hn1, ← hn2, ← hn3, ← hn4] at HC
        rw [← hn1] at hcl
        rw [← hn2] at hcl'
        rw [← hn3] at hcl2
        rw [← hn4] at hcl2'
        have hlad := cell_lt hcl2
        have hlad' : (ad2.add (k * 2)).block < wr.heap.size := hlad
        have HBB := Lib.hid hB
        clear hx hy h1 h2 hnx hno hr hxa hya hxl hn1 hn2 hn3 hn4 hB ht hlad
        cases r with
        | true =>
          have HNT := Lib.hid (HNX.out.1 rfl)
          go_wp2_with fail
          refine Calls.mono (HC.out _ (by repeat (first | with_reducible assumption | with_reducible exact Below.refl _ _ | with_reducible apply bdN | with_reducible apply Below.drew | with_reducible refine Below.alloc ?_ (by simp) _ | with_reducible refine Below.setCell ?_ (by simp) _))) ?_
          rintro r1 w1 ⟨rfl, b1⟩
          have HB4 := Lib.hid (HBB.out.trans ((boxed2 (k := 0) b1).2.2.mono hsz))
          clear b1 HC
          go_wp2_with fail
          go_roundw
          case rel => exact ⟨k + 1, by omega, by go_num, HNT, HB4.out⟩
          case measure => (first | (simp [intOf]; done) | (simp [intOf]; omega))
        | false =>
          have HNE := Lib.hid (HNX.out.2 rfl)
          go_wp2_with fail
          refine Calls.mono (HC.out _ (by repeat (first | with_reducible assumption | with_reducible exact Below.refl _ _ | with_reducible apply bdN | with_reducible apply Below.drew | with_reducible refine Below.alloc ?_ (by simp) _ | with_reducible refine Below.setCell ?_ (by simp) _))) ?_
          rintro r1 w1 ⟨rfl, b1⟩
          have HB4 := Lib.hid (HBB.out.trans ((boxed2 (k := 0) b1).2.2.mono hsz))
          clear b1 HC
          go_wp2_with fail
          go_ret
          rw [HNE.out]
          exact ⟨rfl, HB4.out⟩
      · have hre : R = true := by
          rw [HRR.out, sameNs_iff]
          have := ht.out
          rwa [List.take_of_length_le (by rw [List.length_map, ← HNe.out.1]; omega), List.take_of_length_le (by rw [List.length_map, ← HNe.out.2]; omega)] at this
        have HRE := Lib.hid hre
        clear hre
        go_wp2_with fail
        go_ret
        rw [HRE.out]
        exact ⟨rfl, hB⟩
  · have hne : sameNs xs ys = false := by
      rw [sameNs_no]
      intro e
      have := congrArg List.length e
      rw [List.length_map, List.length_map] at this
      exact he (by rw [hN, hM, this])
    rw [hne]
    have t1 : ((N : Int) != (M : Int)) = true := by simp; omega
    clear hN hM hr hr2 hl he hne HN HR HR2 hs HSm
    go_enter Tryd.func37, Tryd.ntmps37
    go_wp2_with fail
    go_ret
    exact ⟨rfl, Below.refl _ _⟩
theorem equalG_c (w : World) (a b : Gv) (ha : a.At w w.heap.size) (hb : b.At w w.heap.size) (hs : a.Small) : Calls Tryd.prog 20 #[a.v, b.v] w (RetP (.bool (sameG a b)) w) := by
  have HEr := Lib.hid (fun W (h : Below w.heap.size w W) => eqr_c W a.A2 b.A2 a.c2 b.c2 a.r b.r ((ha.r.below h).more h.size) ((hb.r.below h).more h.size) hs.2.1)
  have HEn := Lib.hid (fun W (h : Below w.heap.size w W) => eqf_c W a.A b.A a.c b.c a.n b.n ((ha.n.below h).more h.size) ((hb.n.below h).more h.size) hs.1 (fun x hx => (hs.2.2 x hx).1))
  obtain ⟨A, c, A2, c2, ns, rs⟩ := a
  obtain ⟨B, d, B2, d2, ms, ts⟩ := b
  unfold sameG Gv.v Gv.vn Gv.vr
  simp only at HEr HEn ⊢
  obtain ⟨n, hn⟩ : ∃ n, n = ns.length := ⟨_, rfl⟩
  obtain ⟨m, hm⟩ : ∃ m, m = rs.length := ⟨_, rfl⟩
  obtain ⟨n2, hn2⟩ : ∃ n, n = ms.length := ⟨_, rfl⟩
  obtain ⟨m2, hm2⟩ : ∃ m, m = ts.length := ⟨_, rfl⟩
  rw [← hn, ← hn2] at HEn
  rw [← hm, ← hm2] at HEr
  rw [← hn, ← hn2, ← hm, ← hm2]
  obtain ⟨r1, hr1⟩ : ∃ r, r = sameR rs ts := ⟨_, rfl⟩
  obtain ⟨r2, hr2⟩ : ∃ r, r = sameNs ns ms := ⟨_, rfl⟩
  rw [← hr1] at HEr ⊢
  rw [← hr2] at HEn ⊢
  clear ha hb hs hn hm hn2 hm2 hr1 hr2
  cases r1 with
  | true =>
    go_enter Tryd.func20, Tryd.ntmps20
    go_wp2_with fail
    refine Calls.mono (HEr.out _ (by repeat (first | with_reducible assumption | with_reducible exact Below.refl _ _ | with_reducible apply bdN | with_reducible apply Below.drew | with_reducible refine Below.alloc ?_ (by simp) _ | with_reducible refine Below.setCell ?_ (by simp) _))) ?_
    rintro r1 w1 ⟨rfl, b1⟩
    have hb := Lib.hid (boxed2 (k := 0) b1)
    obtain ⟨k1, k2, k3⟩ := hb.out
    have c0 := k1.two.1
    have c1 := k2.two.1
    have K3 := Lib.hid k3
    clear b1 k1 k2 k3 hb
    go_wp2_with fail
    refine Calls.mono (HEn.out _ K3.out) ?_
    rintro r2 w2 ⟨rfl, b2⟩
    go_wp2_with fail
    go_ret
    exact ⟨rfl, K3.out.trans (b2.mono K3.out.size)⟩
  | false =>
    go_enter Tryd.func20, Tryd.ntmps20
    go_wp2_with fail
    refine Calls.mono (HEr.out _ (by repeat (first | with_reducible assumption | with_reducible exact Below.refl _ _ | with_reducible apply bdN | with_reducible apply Below.drew | with_reducible refine Below.alloc ?_ (by simp) _ | with_reducible refine Below.setCell ?_ (by simp) _))) ?_
    rintro r1 w1 ⟨rfl, b1⟩
    have hb := Lib.hid (boxed2 (k := 0) b1)
    have K3 := Lib.hid hb.out.2.2
    clear b1 hb
    go_wp2_with fail
    go_ret
    exact ⟨rfl, K3.out⟩
end Go.Proofs.YtdppnggchpchgaaDoor
