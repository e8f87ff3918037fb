/- The reference's Good, Words, Named; Ints. Conditions: lengths. -/
import Derived.Test.YtkkjnahjmomjgaaGtZ
import Derived.Test.YtkkjnahjmomjgaaHeadB
namespace Go.Proofs.Ytkkjnahjmomjgaa
set_option linter.unusedVariables false
set_option linter.unusedSimpArgs false
open Go.RowKit
set_option maxHeartbeats 1000000
set_option maxRecDepth 100000
theorem rsz_c (w : World) (A D : Option Addr) (n c m d : Nat) : Calls Try.prog 31 #[.agg #[.slice A n c, .slice D m d]] w (RetP (.int .i64 (sizeH (n : Int) (m : Int) false 0)) w) := by
  have HS := Lib.hid (fun W => rsize_c (n : Int) (m : Int) false 0 W)
  obtain ⟨u, hu⟩ : ∃ u, u = sizeH (n : Int) (m : Int) false 0 := ⟨_, rfl⟩
  rw [← hu] at HS ⊢
  clear hu
  go_enter Try.func31, Try.ntmps31
  go_wp2_with fail
  refine Calls.mono (HS.out _) ?_
  rintro r w2 ⟨rfl, b5⟩
  have b6 : Below w.heap.size w w2 := (Gw.alloc w _).trans (b5.mono (by simp))
  have HB := Lib.hid b6
  clear b5 b6
  go_wp2_with fail
  go_ret
  exact ⟨rfl, HB.out⟩
theorem rwords_c (w : World) (g : Gv) (hg : g.At w w.heap.size) (hs : g.Small) : Calls Try.prog 37 #[g.v] w (RetP (.int .i64 (wordsL g.n)) w) := by
  obtain ⟨R, hR⟩ : ∃ R, R = wordsL g.n := ⟨_, rfl⟩
  rw [← hR]
  have HR := Lib.hid hR
  have HG := Lib.hid hg
  obtain ⟨A, ca, A2, ca2, ns, rs⟩ := g
  obtain ⟨N, hN⟩ : ∃ N, N = ns.length := ⟨_, rfl⟩
  obtain ⟨M, hM⟩ : ∃ M, M = rs.length := ⟨_, rfl⟩
  have HN := Lib.hid hN
  have q0 : (N : Int) ≤ 1000000 := by rw [hN]; exact Int.ofNat_le.2 hs.1
  unfold Gv.v Gv.vn Gv.vr
  simp only
  rw [← hN, ← hM]
  clear hR hg hs hN hM
  go_enter Try.func37, Try.ntmps37
  go_wp2_with fail
  go_loopw [3, 4] (fun t i W => ∃ (k : Nat) (z : Int), i = .int .i64 k ∧ t = .int .i64 z ∧ k ≤ N ∧ Hid (z = wordsL (ns.take k)) ∧ Bk W w.heap.size 31 #[.slice A N ca, .slice A2 M ca2] ∧ Below w.heap.size w W) (fun _ i _ => N - (Go.RowKit.intOf i).toNat)
  case atStart => exact ⟨0, 0, rfl, rfl, Nat.zero_le _, Lib.hid (by simp [wordsL]), Bk.new _ _ _, (by repeat (first | with_reducible assumption | with_reducible exact Below.refl _ _ | with_reducible apply bdN | with_reducible apply Below.drew | with_reducible refine Below.alloc ?_ (by simp) _ | with_reducible refine Below.setCell ?_ (by simp) _))⟩
  case round =>
    obtain ⟨k, z, rfl, rfl, hk, hz, hb1, hB⟩ := hrel
    have c0 := hb1.two.1
    have hsz := hb1.lt
    have HBB := Lib.hid (And.intro hb1 hB)
    by_cases hlt : k < N
    · have hkl : k < ns.length := by rw [← HN.out]; exact hlt
      obtain ⟨x, hx⟩ : ∃ x, x = ns[k] := ⟨_, rfl⟩
      obtain ⟨ad, rfl, hc2, hc3⟩ : ∃ ad, A = some ad ∧ wr.cell? (ad.add (k * 2)) = some x.vp ∧ wr.cell? ⟨(ad.add (k * 2)).block, (ad.add (k * 2)).off + 1, none⟩ = some x.vd := by
        obtain ⟨ad, e, _, h1, h2, h3⟩ := (HG.out.n.below hB) k hkl
        exact ⟨ad, e, by rw [hx]; exact h1, by rw [hx]; exact h2⟩
      have p1 : (0 : Int) ≤ (k : Int) := by omega
      have p2 : (k : Int) < (N : Int) := by omega
      have hz2 : z + szN x = wordsL (ns.take (k + 1)) := by
        rw [take_snoc ns k hkl, wordsL_app, hz.out, hx]
        show _ = _ + (szN _ + 0)
        omega
      have hz3 : 0 ≤ z ∧ z ≤ 300000000 := by
        have := wordsL_le (ns.take k)
        rw [← hz.out, List.length_take] at this
        omega
      have hs3 := szN_le x
      obtain ⟨xA, xc, xD, xd, xps, xbs⟩ := x
      unfold Nv.vp at hc2
      unfold Nv.vd at hc3
      have HSz := Lib.hid (fun W => rsz_c W xA xD xps.length xc xbs.length xd)
      unfold szN at hz2 hs3
      simp only at hc2 hc3 hz2 hs3
      obtain ⟨u, hu⟩ : ∃ u, u = sizeH (xps.length : Int) (xbs.length : Int) false 0 := ⟨_, rfl⟩
      rw [← hu] at HSz hz2 hs3
      obtain ⟨xn, hxn⟩ : ∃ n, n = xps.length := ⟨_, rfl⟩
      obtain ⟨xm, hxm⟩ : ∃ n, n = xbs.length := ⟨_, rfl⟩
      rw [← hxn, ← hxm] at HSz
      rw [← hxn] at hc2
      rw [← hxm] at hc3
      have HZ2 := Lib.hid hz2
      have b1 := hz3.1
      have b2 := hz3.2
      have b3 := hs3.1
      have b4 := hs3.2
      clear hx hb1 hB hkl hz hz2 hz3 hs3 hu hxn hxm
      go_wp2_with fail
      refine Calls.mono (HSz.out _) ?_
      rintro r w2 ⟨rfl, b5⟩
      have b6 : Below wr.heap.size wr w2 := b5
      have HB2 := Lib.hid (And.intro (HBB.out.1.below b6 hsz) (HBB.out.2.trans (b6.mono HBB.out.2.size)))
      clear b5 b6 HSz
      go_wp2_with fail
      go_roundw
      case rel => exact ⟨k + 1, z + u, by go_num, by go_num, by omega, HZ2, HB2.out⟩
      case measure => simp [Go.RowKit.intOf]; omega
    · have hkN : z = R := by rw [HR.out, hz.out, show k = ns.length by rw [← HN.out]; omega, List.take_length]
      have HK := Lib.hid hkN
      clear hkN hb1 hB
      go_wp2_with fail
      go_ret
      rw [HK.out]
      exact ⟨rfl, HBB.out.2⟩
end Go.Proofs.Ytkkjnahjmomjgaa
