/- rec.Decode of a record that is cut behind its length. Conditions: lengths. -/
import Derived.Test.YtoigahkgdanjnaaRecE
namespace Go.Proofs.Ytoigahkgdanjnaa
set_option linter.unusedVariables false
set_option linter.unusedSimpArgs false
open Go.RowKit
set_option maxRecDepth 100000
set_option maxHeartbeats 400000
theorem decode_cut_body (k : Nat) (tx : BitVec 64) (sp no : Nat) (A : Option Addr) (d : List (BitVec 8)) (c N : Nat) (w : World) (hd : d.length ≤ 4096) (hm1 : (uintL (BitVec.ofNat 64 (sealC (bodyL k tx sp no d)).length)).length ≤ N) (hm2 : N < (encRL k tx sp no d).length) (hc : N ≤ c) (hr : Rd b8 w w.heap.size A ((encRL k tx sp no d).take N)) :
    Calls Try.prog 11 #[.slice A N c] w (RetP (.tuple #[recV 0 0#64 0 0 none 0 0, .int .i64 0, .int .i64 3]) w) := by
  obtain ⟨S, hS⟩ : ∃ S, S = sealC (bodyL k tx sp no d) := ⟨_, rfl⟩
  obtain ⟨u, hu⟩ : ∃ u, u = uintL (BitVec.ofNat 64 S.length) := ⟨_, rfl⟩
  have hE : encRL k tx sp no d = u ++ S := by unfold encRL rawL; rw [← hS, ← hu]
  have hSl : S.length ≤ 5000 := by
    have := bodyL_len k tx sp no d
    have h2 := sealC_len (bodyL k tx sp no d)
    rw [← hS] at h2
    omega
  have hul : u.length ≤ 10 := by rw [hu]; exact uintF_len 9 _
  rw [← hS, ← hu] at hm1
  rw [hE, List.length_append] at hm2
  obtain ⟨F, hF⟩ : ∃ F, F = min N 10 := ⟨_, rfl⟩
  obtain ⟨ul, hul2⟩ : ∃ ul, ul = u.length := ⟨_, rfl⟩
  have hfr : ((encRL k tx sp no d).take N).take F = u ++ S.take (F - ul) := by
    rw [hE, List.take_take, take_front _ _ _ (by omega), hul2, show min F N = F from by omega]
  have hfl : (((encRL k tx sp no d).take N).take F).length = F := by rw [List.length_take, List.length_take, hE, List.length_append]; omega
  have HK := Lib.hid (Bk.new w 27 zeroR)
  have HB := Lib.hid (Gw.alloc w (.cells zeroR 27))
  have HO := Lib.hid (of_c (((encRL k tx sp no d).take N).take F) A c (w.alloc (.cells zeroR 27)) (((hr.take F).alloc (Nat.le_refl _) _).more (by simp)) (by rw [hfl]; omega))
  rw [hfl] at HO
  unfold zeroR at HO
  have HR := Lib.hid hr
  have HFR := Lib.hid hfr
  have HE := Lib.hid hE
  have HSS := Lib.hid hS
  have HU := Lib.hid hu
  have HN := Lib.hid (show ul ≤ N ∧ N < ul + S.length from by omega)
  have HUL := Lib.hid hul2
  have HFF := Lib.hid hF
  have n0 : (0 : Int) ≤ (F : Int) := by omega
  have n1 : (F : Int) ≤ (N : Int) := by omega
  have n2 : (F : Int) ≤ 10 := by omega
  have n3 : (N : Int) ≤ (c : Int) := by omega
  have n4 : (N : Int) ≤ 200000000 := by omega
  have hmin := min_run N F hF
  clear hr hfr hE hS hu hm1 hm2 hul2 hF hfl
  go_enter Try.func11, Try.ntmps11
  go_wp2_with fail
  refine Calls.mono HO.out ?_
  rintro e w1 ⟨g, rfl, hg1, hg2, hd1, b1⟩
  have HB1 := Lib.hid (HB.out.trans (b1.mono HB.out.size))
  have HK1 := Lib.hid (HK.out.below b1 HK.out.lt)
  have hg1' : w.heap.size < g := by simp at hg1; omega
  obtain ⟨q, hq⟩ : ∃ q, q = S.take (F - ul) := ⟨_, rfl⟩
  have HQL : Hid (F = ul + q.length) := Lib.hid (by rw [hq, List.length_take]; have := HN.out; have := HUL.out; have := HFF.out; omega)
  have HU1 := Lib.hid (dec_len w1 g S.length q (by rw [← HU.out, hq, ← HFR.out]; exact hd1) (by omega) (by rw [hq, List.length_take]; omega))
  obtain ⟨qn, hqn⟩ : ∃ qn, qn = q.length := ⟨_, rfl⟩
  obtain ⟨L, hL⟩ : ∃ L, L = S.length := ⟨_, rfl⟩
  rw [← hqn] at HQL
  rw [← hL] at HU1 HN hSl
  have hF2 := HQL.out
  have HQN := Lib.hid hqn
  have HL := Lib.hid hL
  have hg2' := hg2
  clear hg1 hg2 hd1 b1 HO HK HB hq hqn hL
  subst hF2
  clear HQL
  go_wp2_with fail
  refine Calls.mono HU1.out ?_
  rintro e w2 ⟨rfl, hd2, ho2⟩
  have HE2 := Lib.hid (dec_err w2 g q 0 hd2)
  have HE3 := Lib.hid (dec_left w2 g q 0 hd2)
  rw [← HQN.out] at HE3
  have HB2 := Lib.hid (HB1.out.trans (ho2.below (Nat.le_of_lt hg1') (by omega)))
  have HK2 := Lib.hid (HK1.out.only ho2 (by have := HK1.out.lt; omega))
  have n5 : (N : Int) < (ul : Int) + (L : Int) := by have := HN.out; omega
  have n7 : (ul : Int) ≤ (N : Int) := by have := HN.out; omega
  go_wp2_with fail
  refine Calls.mono HE2.out ?_
  rintro e w3 ⟨rfl, rfl⟩
  go_wp2_with fail
  refine Calls.mono HE3.out ?_
  rintro e w4 ⟨rfl, rfl⟩
  obtain ⟨r0, r1, r2, r3, r4⟩ := HK2.out.five
  have z0 := HK2.out.free 0
  have z1 := HK2.out.free 1
  have z2 := HK2.out.free 2
  have z3 := HK2.out.free 3
  have z4 := HK2.out.free 4
  clear HE2 HE3 hd2 ho2 HU1 HB1 HK1
  go_wp2_with fail
  have HF := Lib.hid (fill5 (d := []) (B := 0) (A := none) HK2.out HB2.out Rd.nil (Nat.zero_le _) (by intro a e; cases e) (.int .i64 0) (.int .u64 0) (.int .i64 0) (.int .i64 0) (.slice none 0 0) _ rfl)
  obtain ⟨t0, t1, t2, t3, t4⟩ := HF.out.1.five
  refine bodyPost_ret (v := .tuple #[recV 0 0#64 0 0 none 0 0, .int .i64 0, .int .i64 3]) (by unfold recV; simp [results, Try.results11, go_sem, t0, t1, t2, t3, t4]; try rfl) rfl ?_
  exact ⟨rfl, HF.out.2.2.1⟩
theorem decode_cut (k : Nat) (tx : BitVec 64) (sp no : Nat) (A : Option Addr) (d : List (BitVec 8)) (c m : Nat) (w : World) (hd : d.length ≤ 4096) (hm : m < (encRL k tx sp no d).length) (hc : m ≤ c) (hr : Rd b8 w w.heap.size A ((encRL k tx sp no d).take m)) :
    Calls Try.prog 11 #[.slice A m c] w (RetP (.tuple #[recV 0 0#64 0 0 none 0 0, .int .i64 0, .int .i64 3]) w) := by
  by_cases h : m < (uintL (BitVec.ofNat 64 (sealC (bodyL k tx sp no d)).length)).length
  · exact decode_cut_uint k tx sp no A d c m w hd h hc hr
  · exact decode_cut_body k tx sp no A d c m w hd (by omega) hm hc hr
end Go.Proofs.Ytoigahkgdanjnaa
