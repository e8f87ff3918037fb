/- obj.Ptr, SetPtr, Read, Write. Conditions: lengths. -/
import Derived.Test.YtaminpfgkegibaaObB
namespace Go.Proofs.Ytaminpfgkegibaa
set_option linter.unusedVariables false
set_option linter.unusedSimpArgs false
open Go.RowKit
theorem ofNat_U64 (n : Nat) (h : n < 2 ^ 64) : U64 (BitVec.ofNat 64 n) = (n : Int) := by
  unfold U64; rw [BitVec.toNat_ofNat, Nat.mod_eq_of_lt h]
/-- May a word be a pointer's? -/
def pokB (b t : Nat) (y : BitVec 64) : Bool := decide (y.toNat = 0 ∨ (b < y.toNat ∧ y.toNat ≤ t))
/-- What Ptr answers of a word that is a pointer's. -/
def ptV (b t : Nat) (y : BitVec 64) : Int := if pokB b t y = true then (y.toNat : Int) - 1 else 0
def ptE (b t : Nat) (y : BitVec 64) : Int := if pokB b t y = true then 0 else 2
theorem pt_yes {b t : Nat} {y : BitVec 64} (h : pokB b t y = true) : ptV b t y = (y.toNat : Int) - 1 ∧ ptE b t y = 0 := by unfold ptV ptE; rw [if_pos h, if_pos h]; exact ⟨rfl, rfl⟩
theorem pt_no {b t : Nat} {y : BitVec 64} (h : pokB b t y = false) : ptV b t y = 0 ∧ ptE b t y = 2 := by unfold ptV ptE; rw [if_neg (by rw [h]; simp), if_neg (by rw [h]; simp)]; exact ⟨rfl, rfl⟩
theorem word_in {ws : List (BitVec 64)} {b t e a k : Nat} {x : BitVec 64} (hx : goodX x (t - a) = true) (h2 : a < t) (hte : t ≤ e) (hel : e ≤ ws.length) (hk : k < P0 x) : a + 1 + k < ws.length ∧ a + 1 + k < t := by
  obtain ⟨_, _, _, h, _, h3⟩ := head_of hx
  omega
set_option maxHeartbeats 1000000
set_option maxRecDepth 100000
theorem Ptr_err (w : World) (B s g : Nat) (v : Value) (ws : List (BitVec 64)) (b t e : Nat) (p : SpAt w B s g v ws b t e) (hl : ws.length ≤ 100000) (a i : Int) (h : lkE ws b t a ≠ 0) :
    Calls Try.prog 97 #[.pointer (some ⟨s, 0, none⟩), .int .i64 a, .int .i64 i] w (RetP (.tuple #[.int .i64 0, .int .i64 (lkE ws b t a)]) w) := by
  have HL := Lib.hid (ptr_err w B s g v ws b t e p hl a i h)
  obtain ⟨E, hE⟩ : ∃ E, E = lkE ws b t a := ⟨_, rfl⟩
  rw [← hE] at HL h ⊢
  have h1 : (E == 0) = false := by simpa using h
  have h2 : (E != 0) = true := by simpa using h
  clear hE p hl h
  go_enter Try.func97, Try.ntmps97
  go_wp2_with fail
  refine Calls.mono HL.out ?_
  rintro r w2 ⟨rfl, b2⟩
  have HB := Lib.hid b2
  clear b2 HL
  go_wp2_with fail
  go_ret2
  exact ⟨rfl, HB.out⟩
theorem Ptr_no (w : World) (B s g : Nat) (v : Value) (ws : List (BitVec 64)) (b t e : Nat) (p : SpAt w B s g v ws b t e) (hl : ws.length ≤ 100000) (a : Nat) (i : Int) (h1 : b ≤ a) (h2 : a < t) (hg : goodX (ws.getD a 0#64) (t - a) = true) (hi : i < 0 ∨ (0 ≤ i ∧ (P0 (ws.getD a 0#64) : Int) ≤ i)) :
    Calls Try.prog 97 #[.pointer (some ⟨s, 0, none⟩), .int .i64 a, .int .i64 i] w (RetP (.tuple #[.int .i64 0, .int .i64 1]) w) := by
  have HL := Lib.hid (ptr_no w B s g v ws b t e p hl a i h1 h2 hg hi)
  clear p hl h1 h2 hg hi
  go_enter Try.func97, Try.ntmps97
  go_wp2_with fail
  refine Calls.mono HL.out ?_
  rintro r w2 ⟨rfl, b2⟩
  have HB := Lib.hid b2
  clear b2 HL
  go_wp2_with fail
  go_ret2
  exact ⟨rfl, HB.out⟩
theorem Ptr_c (w : World) (B s g : Nat) (v : Value) (ws : List (BitVec 64)) (b t e : Nat) (p : SpAt w B s g v ws b t e) (hl : ws.length ≤ 8192) (a k : Nat) (h1 : b ≤ a) (h2 : a < t) (hg : goodX (ws.getD a 0#64) (t - a) = true) (hk : k < P0 (ws.getD a 0#64)) :
    Calls Try.prog 97 #[.pointer (some ⟨s, 0, none⟩), .int .i64 a, .int .i64 k] w (RetP (.tuple #[.int .i64 (ptV b t (ws.getD (a + 1 + k) 0#64)), .int .i64 (ptE b t (ws.getD (a + 1 + k) 0#64))]) w) := by
  have HL := Lib.hid (ptr_ok w B s g v ws b t e p (by omega) a k h1 h2 hg hk)
  obtain ⟨hj, hjt⟩ := word_in (b := b) hg h2 p.te p.el hk
  obtain ⟨J, hJ⟩ : ∃ J, J = a + 1 + k := ⟨_, rfl⟩
  rw [← hJ] at HL hj ⊢
  obtain ⟨y, hy⟩ : ∃ y, y = ws.getD J 0#64 := ⟨_, rfl⟩
  have hgy : ws[J] = y := by rw [hy, List.getD_eq_getElem?_getD, List.getElem?_eq_getElem hj]; rfl
  have HGt := Lib.hid (fun W (hb : Below w.heap.size w W) => get_in W B g v ws J hj (by omega) (p.below hb).mem)
  rw [hgy] at HGt
  have HIn := Lib.hid (fun W (hb : Below w.heap.size w W) => inside_c W B s g v ws b t e (p.below hb))
  have HC := Lib.hid (fun W (hb : Below w.heap.size w W) => (p.below hb).four.1)
  have ht : t ≤ 8192 := by have := p.te; have := p.el; omega
  rw [← hy]
  have HT := Lib.hid ht
  obtain ⟨PV, hPV⟩ : ∃ v, v = ptV b t y := ⟨_, rfl⟩
  obtain ⟨PE, hPE⟩ : ∃ v, v = ptE b t y := ⟨_, rfl⟩
  rw [← hPV, ← hPE]
  have HV := Lib.hid (And.intro hPV hPE)
  clear hPV hPE
  clear hJ hy hgy p hl h1 h2 hg hk hj hjt ht
  go_enter Try.func97, Try.ntmps97
  go_wp2_with fail
  refine Calls.mono HL.out ?_
  rintro r w2 ⟨rfl, b2⟩
  have HB2 := Lib.hid b2
  have c0 := HC.out w2 b2
  clear b2 HL
  go_wp2_with fail
  refine Calls.mono (HGt.out w2 HB2.out) ?_
  rintro r w3 ⟨rfl, rfl⟩
  by_cases hhi : 8192 < U64 y
  · have HPl := Lib.hid (place_hi w3 y hhi)
    have hno : pokB b t y = false := by
      unfold pokB
      rw [decide_eq_false_iff_not]
      have := HT.out
      unfold U64 at hhi
      omega
    have e1 : PV = 0 := by rw [HV.out.1, (pt_no hno).1]
    have e2 : PE = 2 := by rw [HV.out.2, (pt_no hno).2]
    subst e1
    subst e2
    clear hhi hno
    go_wp2_with fail
    refine Calls.mono HPl.out ?_
    rintro r w4 ⟨rfl, b4⟩
    have HB4 := Lib.hid (HB2.out.trans (b4.mono HB2.out.size))
    clear b4
    go_wp2_with fail
    go_ret2
    exact ⟨rfl, HB4.out⟩
  · obtain ⟨n, hn⟩ : ∃ n, n = y.toNat := ⟨_, rfl⟩
    have hU : U64 y = (n : Int) := by rw [hn]; rfl
    have hn2 : (n : Int) ≤ 8192 := by omega
    have HPl := Lib.hid (place_lo w3 n hn2)
    have HNy := Lib.hid hn
    have hpk : pokB b t y = decide (n = 0 ∨ (b < n ∧ n ≤ t)) := by unfold pokB; rw [← hn]
    have HPk := Lib.hid hpk
    rw [hU]
    clear hhi hpk hn hU
    go_wp2_with fail
    refine Calls.mono HPl.out ?_
    rintro r w4 ⟨rfl, b4⟩
    have HB4 := Lib.hid (HB2.out.trans (b4.mono HB2.out.size))
    clear b4
    by_cases hn0 : n = 0
    · have hyes : pokB b t y = true := by rw [HPk.out]; simp [hn0]
      have e1 : PV = -1 := by rw [HV.out.1, (pt_yes hyes).1, ← HNy.out, hn0]; rfl
      have e2 : PE = 0 := by rw [HV.out.2, (pt_yes hyes).2]
      subst e1
      subst e2
      obtain rfl := hn0
      clear hyes HPk HNy
      go_wp2_with fail
      go_ret2
      exact ⟨rfl, HB4.out⟩
    · obtain ⟨m, hm⟩ : ∃ m : Nat, (n : Int) - 1 = (m : Int) := ⟨n - 1, by omega⟩
      have q1 : ((m : Int) == -1) = false := by simp
      have q2 : ((m : Int) != -1) = true := by simp
      have q3 : decide ((m : Int) = -1) = false := by simp
      rw [hm]
      have HI := Lib.hid (HIn.out w4 HB4.out (m : Int))
      obtain ⟨r, hr⟩ : ∃ r, r = insB b t (m : Int) := ⟨_, rfl⟩
      have hpr : pokB b t y = r := by
        rw [HPk.out, hr]
        unfold insB
        rw [decide_eq_decide]
        omega
      rw [← hr] at HI
      cases r with
      | true =>
        have e1 : PV = (m : Int) := by rw [HV.out.1, (pt_yes hpr).1, ← HNy.out, hm]
        have e2 : PE = 0 := by rw [HV.out.2, (pt_yes hpr).2]
        subst e1
        subst e2
        clear hm hr hpr hn0 hn2 HPk HNy
        go_wp2_with fail
        refine Calls.mono HI.out ?_
        rintro r2 w5 ⟨rfl, b5⟩
        have HB5 := Lib.hid (HB4.out.trans (b5.mono HB4.out.size))
        clear b5
        go_wp2_with fail
        go_ret2
        exact ⟨rfl, HB5.out⟩
      | false =>
        have e1 : PV = 0 := by rw [HV.out.1, (pt_no hpr).1]
        have e2 : PE = 2 := by rw [HV.out.2, (pt_no hpr).2]
        subst e1
        subst e2
        clear hm hr hpr hn0 hn2 HPk HNy
        go_wp2_with fail
        refine Calls.mono HI.out ?_
        rintro r2 w5 ⟨rfl, b5⟩
        have HB5 := Lib.hid (HB4.out.trans (b5.mono HB4.out.size))
        clear b5
        go_wp2_with fail
        go_ret2
        exact ⟨rfl, HB5.out⟩
end Go.Proofs.Ytaminpfgkegibaa
