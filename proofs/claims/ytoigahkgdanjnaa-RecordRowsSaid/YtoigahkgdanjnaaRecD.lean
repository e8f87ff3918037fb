/- What rec.Decode answers of a record's bytes with more behind. Conditions: lengths. -/
import Derived.Test.YtoigahkgdanjnaaRecC
namespace Go.Proofs.Ytoigahkgdanjnaa
set_option linter.unusedVariables false
set_option linter.unusedSimpArgs false
open Go.RowKit
set_option maxRecDepth 100000
set_option maxHeartbeats 400000
def DecodeP (k : Nat) (tx : BitVec 64) (sp no : Nat) (d : List (BitVec 8)) (w : World) (e : Ending) (w' : World) : Prop := ∃ A c, e = .returned (.tuple #[recV k tx sp no A d.length c, .int .i64 (encRL k tx sp no d).length, .int .i64 0]) ∧ Rd b8 w' w'.heap.size A d ∧ Below w.heap.size w w' ∧ ∀ a, A = some a → w.heap.size ≤ a.block
theorem take_front (u s : List (BitVec 8)) (n : Nat) (h : u.length ≤ n) : (u ++ s).take n = u ++ s.take (n - u.length) := by
  rw [List.take_append, List.take_of_length_le h]
theorem min_run (N F : Nat) (h : F = min N 10) (W : World) : (Builtin.min_ #[3, 3] 3 #[.int .i64 (N : Int), .int .i64 10]).run Try.prog W = .ok (.int .i64 (F : Int)) W := by
  unfold Builtin.min_
  by_cases h2 : N ≤ 10
  · have h3 : F = N := by omega
    clear h
    subst h3
    have h4 : ¬ (10 : Int) < (F : Int) := by omega
    go_simp
    simp [Builtin.min2, h4]
  · have h3 : F = 10 := by omega
    clear h
    subst h3
    have h4 : (10 : Int) < (N : Int) := by omega
    go_simp
    simp [Builtin.min2, h4]
theorem fill5 {w W : World} (hk : Bk W w.heap.size 27 zeroR) (hb : Below w.heap.size w W) {A : Option Addr} {d : List (BitVec 8)} {B : Nat} (hr : Rd b8 W B A d) (hB : B ≤ W.heap.size) (ha : ∀ a, A = some a → w.heap.size < a.block) (v0 v1 v2 v3 v4 : Value) (W5 : World)
    (hW : W5 = ((((W.setCell ⟨w.heap.size, 0, none⟩ v0).setCell ⟨w.heap.size, 1, none⟩ v1).setCell ⟨w.heap.size, 2, none⟩ v2).setCell ⟨w.heap.size, 3, none⟩ v3).setCell ⟨w.heap.size, 4, none⟩ v4) :
    Bk W5 w.heap.size 27 #[v0, v1, v2, v3, v4] ∧ Rd b8 W5 W5.heap.size A d ∧ Below w.heap.size w W5 ∧ ∀ a, A = some a → w.heap.size ≤ a.block := by
  have ho : Only W W5 w.heap.size := by
    rw [hW]
    exact ((((Only.set W _ 0 v0).trans (Only.set _ _ 1 v1)).trans (Only.set _ _ 2 v2)).trans (Only.set _ _ 3 v3)).trans (Only.set _ _ 4 v4)
  refine ⟨?_, (hr.more hB).only ho fun a e => by have := ha a e; omega, hb.trans (ho.below (Nat.le_refl _) hk.lt), fun a e => Nat.le_of_lt (ha a e)⟩
  rw [hW]
  exact ((((hk.set 0 v0).set 1 v1).set 2 v2).set 3 v3).set 4 v4
theorem decode_ok (k : Nat) (tx : BitVec 64) (sp no : Nat) (A : Option Addr) (d rest : List (BitVec 8)) (c : Nat) (w : World) (h : ¬ badR k sp no) (hd : d.length ≤ 4096) (hl : rest.length ≤ 100000000) (hc : (encRL k tx sp no d ++ rest).length ≤ c) (hr : Rd b8 w w.heap.size A (encRL k tx sp no d ++ rest)) :
    Calls Try.prog 11 #[.slice A (encRL k tx sp no d ++ rest).length c] w (DecodeP k tx sp no d w) := by
  obtain ⟨S, hS⟩ : ∃ S, S = sealC (bodyL k tx sp no d) := ⟨_, rfl⟩
  obtain ⟨u, hu⟩ : ∃ u, u = uintL (BitVec.ofNat 64 S.length) := ⟨_, rfl⟩
  have hE : encRL k tx sp no d = u ++ S := by unfold encRL rawL; rw [← hS, ← hu]
  have hSl : S.length ≤ 5000 := by
    have := bodyL_len k tx sp no d
    have h2 := sealC_len (bodyL k tx sp no d)
    rw [← hS] at h2
    omega
  have hul : u.length ≤ 10 := by rw [hu]; exact uintF_len 9 _
  have hSl4 : 4 ≤ S.length := by
    have h2 := sealC_len (bodyL k tx sp no d)
    rw [← hS] at h2
    omega
  obtain ⟨N, hN⟩ : ∃ N, N = (encRL k tx sp no d ++ rest).length := ⟨_, rfl⟩
  have hN2 : N = u.length + S.length + rest.length := by rw [hN, hE]; simp; omega
  obtain ⟨F, hF⟩ : ∃ F, F = min N 10 := ⟨_, rfl⟩
  obtain ⟨ul, hul2⟩ : ∃ ul, ul = u.length := ⟨_, rfl⟩
  have hfr : (encRL k tx sp no d ++ rest).take F = u ++ (S ++ rest).take (F - ul) := by
    rw [hE, List.append_assoc, take_front _ _ _ (by omega), hul2]
  have hfl : ((encRL k tx sp no d ++ rest).take F).length = F := by rw [List.length_take, ← hN]; omega
  have HK := Lib.hid (Bk.new w 27 zeroR)
  have HB := Lib.hid (Gw.alloc w (.cells zeroR 27))
  have HO := Lib.hid (of_c ((encRL k tx sp no d ++ rest).take F) A c (w.alloc (.cells zeroR 27)) (((hr.take F).alloc (Nat.le_refl _) _).more (by simp)) (by rw [hfl]; omega))
  rw [hfl] at HO
  unfold zeroR at HO
  have HR := Lib.hid hr
  have HFR := Lib.hid hfr
  have HH := Lib.hid h
  have HE := Lib.hid hE
  have HSS := Lib.hid hS
  have HU := Lib.hid hu
  have HN := Lib.hid hN2
  have HUL := Lib.hid hul2
  have HFF := Lib.hid hF
  have HNN := Lib.hid hN
  rw [← hN] at hc ⊢
  have n0 : (0 : Int) ≤ (F : Int) := by omega
  have n1 : (F : Int) ≤ (N : Int) := by omega
  have n2 : (F : Int) ≤ 10 := by omega
  have n3 : (N : Int) ≤ (c : Int) := by omega
  have n4 : (N : Int) ≤ 200000000 := by omega
  have hmin := min_run N F hF
  clear hr hfr h hE hS hu hN hN2 hul2 hF hfl
  go_enter Try.func11, Try.ntmps11
  go_wp2_with fail
  refine Calls.mono HO.out ?_
  rintro e w1 ⟨g, rfl, hg1, hg2, hd1, b1⟩
  have HB1 := Lib.hid (HB.out.trans (b1.mono HB.out.size))
  have HK1 := Lib.hid (HK.out.below b1 HK.out.lt)
  have hg1' : w.heap.size < g := by simp at hg1; omega
  obtain ⟨q, hq⟩ : ∃ q, q = (S ++ rest).take (F - ul) := ⟨_, rfl⟩
  have HQL : Hid (F = ul + q.length) := Lib.hid (by rw [hq, List.length_take, List.length_append]; have := HN.out; have := HUL.out; have := HFF.out; omega)
  have HU1 := Lib.hid (dec_len w1 g S.length q (by rw [← HU.out, hq, ← HFR.out]; exact hd1) (by omega) (by rw [hq, List.length_take]; omega))
  obtain ⟨qn, hqn⟩ : ∃ qn, qn = q.length := ⟨_, rfl⟩
  obtain ⟨L, hL⟩ : ∃ L, L = S.length := ⟨_, rfl⟩
  rw [← hqn] at HQL
  rw [← hL] at HU1 HN hSl hSl4
  have HSL := Lib.hid hSl4
  have hF2 := HQL.out
  have HQN := Lib.hid hqn
  have HL := Lib.hid hL
  have hg2' := hg2
  clear hg1 hg2 hd1 b1 HO HK HB hq hqn hL
  subst hF2
  clear HQL
  go_wp2_with fail
  refine Calls.mono HU1.out ?_
  rintro e w2 ⟨rfl, hd2, ho2⟩
  have HE2 := Lib.hid (dec_err w2 g q 0 hd2)
  have HE3 := Lib.hid (dec_left w2 g q 0 hd2)
  rw [← HQN.out] at HE3
  have HB2 := Lib.hid (HB1.out.trans (ho2.below (Nat.le_of_lt hg1') (by omega)))
  have HK2 := Lib.hid (HK1.out.only ho2 (by have := HK1.out.lt; omega))
  have n5 : (ul : Int) + (L : Int) ≤ (N : Int) := by have := HN.out; have := HUL.out; omega
  have n6 : ¬ c = ul := by have := HN.out; have := HUL.out; have := HSL.out; omega
  go_wp2_with fail
  refine Calls.mono HE2.out ?_
  rintro e w3 ⟨rfl, rfl⟩
  go_wp2_with fail
  refine Calls.mono HE3.out ?_
  rintro e w4 ⟨rfl, rfl⟩
  go_wp2_with fail
  have HO5 := Lib.hid (open_c k tx sp no (Option.map (fun x => x.add ul) A) d (c - ul) w4 HH.out hd (by rw [← HSS.out, ← HL.out]; have := HN.out; have := HUL.out; omega) (by
    have h1 := ((HR.out.below HB2.out).more HB2.out.size).drop (k := ul) (cap := c) (by rw [← HNN.out]; exact hc)
    rw [if_neg n6, HE.out, List.append_assoc, HUL.out, List.drop_left] at h1
    have h2 := h1.take S.length
    rw [List.take_left, ← HUL.out] at h2
    rw [← HSS.out]
    exact h2))
  rw [← HSS.out, ← HL.out] at HO5
  clear n6 HE2 HE3 hd2 ho2 HU1 HB1 HK1
  refine Calls.mono HO5.out ?_
  rintro e w5 ⟨A5, c5, rfl, hr5, hb5, ha5⟩
  have HB5 := Lib.hid (HB2.out.trans (hb5.mono HB2.out.size))
  have HK5 := Lib.hid (HK2.out.below hb5 HK2.out.lt)
  have HEn := Lib.hid (fun W (q : Rd b8 W W.heap.size A5 d) => encode_ok k tx sp no A5 d c5 W HH.out hd q)
  have HEL : Hid ((encRL k tx sp no d).length = ul + L) := Lib.hid (by rw [HE.out, List.length_append, ← HUL.out, ← HL.out])
  obtain ⟨x, hx⟩ : ∃ x, x = d.length := ⟨_, rfl⟩
  rw [← hx] at HEn ⊢
  have HX := Lib.hid hx
  have HA5 := Lib.hid (fun a (e : A5 = some a) => Nat.lt_of_lt_of_le HK2.out.lt (ha5 a e))
  have HR5 := Lib.hid (hr5.alloc (Nat.le_refl _) (.cells #[.int .i64 (k : Int), .int .u64 (U64 tx), .int .i64 (sp : Int), .int .i64 (no : Int), .slice A5 x c5] 27))
  have HV := Lib.hid (Bk.new w5 27 #[.int .i64 (k : Int), .int .u64 (U64 tx), .int .i64 (sp : Int), .int .i64 (no : Int), .slice A5 x c5])
  obtain ⟨v0, v1, v2, v3, v4⟩ := HV.out.five
  clear hx hr5 hb5 ha5 HO5 HB2 HK2
  unfold recV at HEn ⊢
  go_wp2_with fail
  have HE6 := Lib.hid (HEn.out _ (HR5.out.more (by simp)))
  clear HEn v0 v1 v2 v3 v4
  refine Calls.mono HE6.out ?_
  rintro e w6 ⟨A6, c6, rfl, hc6, hr6, hb6, ha6⟩
  have HB6 := Lib.hid ((HB5.out.trans ((Gw.alloc w5 _).mono HB5.out.size)).trans (hb6.mono (by have := HB5.out.size; simp; omega)))
  have HK6 := Lib.hid ((HK5.out.alloc _).below hb6 (by have := HK5.out.lt; simp; omega))
  have HV6 := Lib.hid (HV.out.below hb6 HV.out.lt)
  have HR6 := Lib.hid ((HR5.out.more (B' := (w5.alloc (.cells #[.int .i64 (k : Int), .int .u64 (U64 tx), .int .i64 (sp : Int), .int .i64 (no : Int), .slice A5 x c5] 27)).heap.size) (by simp)).below hb6)
  have HQ6 := Lib.hid (equal_c A6 A c6 c _ _ w6 hr6 (by
    have h1 := ((HR.out.below HB6.out).more HB6.out.size).take (encRL k tx sp no d).length
    rwa [List.take_left] at h1))
  have hdd : decide (encRL k tx sp no d = encRL k tx sp no d) = true := by simp
  rw [hdd, HEL.out] at HQ6
  rw [HEL.out]
  have HS6 := Lib.hid hb6.size
  clear hdd hc6 hr6 hb6 ha6 HE6 HR5 HV HK5
  have n7 : (ul : Int) + (L : Int) ≤ (c : Int) := by have := HN.out; have := HUL.out; omega
  go_wp2_with fail
  refine Calls.mono HQ6.out ?_
  rintro e w7 ⟨rfl, rfl⟩
  obtain ⟨v0, v1, v2, v3, v4⟩ := HV6.out.five
  obtain ⟨r0, r1, r2, r3, r4⟩ := HK6.out.five
  have z0 := HK6.out.free 0
  have z1 := HK6.out.free 1
  have z2 := HK6.out.free 2
  have z3 := HK6.out.free 3
  have z4 := HK6.out.free 4
  clear HQ6 n7
  go_wp2_with fail
  have HF := Lib.hid (fill5 HK6.out HB6.out HR6.out HS6.out HA5.out (.int .i64 (k : Int)) (.int .u64 (U64 tx)) (.int .i64 (sp : Int)) (.int .i64 (no : Int)) (.slice A5 x c5) _ rfl)
  obtain ⟨t0, t1, t2, t3, t4⟩ := HF.out.1.five
  refine bodyPost_ret (v := .tuple #[recV k tx sp no A5 x c5, .int .i64 ((ul : Int) + (L : Int)), .int .i64 0]) (by unfold recV; simp [results, Try.results11, go_sem, t0, t1, t2, t3, t4]) rfl ?_
  exact ⟨A5, c5, by rw [HX.out, HEL.out]; rfl, HF.out.2.1, HF.out.2.2.1, HF.out.2.2.2⟩
end Go.Proofs.Ytoigahkgdanjnaa
