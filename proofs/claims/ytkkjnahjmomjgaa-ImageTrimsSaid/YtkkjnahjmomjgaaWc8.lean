/- Texts joined: ObB ObC MmE MmF MmG ObD ObE ObF. -/
import Derived.Test.YtkkjnahjmomjgaaWc7
import Derived.Test.YtkkjnahjmomjgaaRegT
/- obj's pointer, place, inside, data. Conditions: lengths. -/
namespace Go.Proofs.Ytkkjnahjmomjgaa
set_option linter.unusedVariables false
set_option linter.unusedSimpArgs false
open Go.RowKit
/-- What look answers of a place, as an error. -/
def lkE (ws : List (BitVec 64)) (b t : Nat) (a : Int) : Int := if (b : Int) ≤ a ∧ a < (t : Int) then (if goodX (ws.getD a.toNat 0#64) (t - a.toNat) = true then 0 else 2) else 1
set_option maxHeartbeats 1000000
set_option maxRecDepth 100000
theorem ptr_ok (w : World) (B s g : Nat) (v : Value) (ws : List (BitVec 64)) (b t e : Nat) (p : SpAt w B s g v ws b t e) (hl : ws.length ≤ 100000) (a k : Nat) (h1 : b ≤ a) (h2 : a < t) (hg : goodX (ws.getD a 0#64) (t - a) = true) (hk : k < P0 (ws.getD a 0#64)) :
    Calls Try.prog 92 #[.pointer (some ⟨s, 0, none⟩), .int .i64 a, .int .i64 k] w (RetP (.tuple #[.int .i64 ((a + 1 + k : Nat) : Int), .int .i64 0]) w) := by
  have HL := Lib.hid (look_ok w B s g v ws b t e p hl a h1 h2 hg)
  obtain ⟨P, hP⟩ : ∃ P, P = P0 (ws.getD a 0#64) := ⟨_, rfl⟩
  obtain ⟨N, hN⟩ : ∃ P, P = B0 (ws.getD a 0#64) := ⟨_, rfl⟩
  have hb := (head_of hg).2.1
  rw [← hP, ← hN] at HL
  rw [← hP] at hk hb
  have q1 : (a : Int) ≤ 100000 := by have := p.te; have := p.el; omega
  have q2 : (0 : Int) ≤ (a : Int) := by omega
  have q3 : (0 : Int) ≤ (k : Int) := by omega
  have q4 : (k : Int) < (P : Int) := by omega
  have q5 : (P : Int) ≤ 64 := by omega
  rw [show ((a + 1 + k : Nat) : Int) = (a : Int) + 1 + (k : Int) by omega]
  clear hP hN p hl h1 h2 hg hb
  go_enter Try.func92, Try.ntmps92
  go_wp2_with fail
  refine Calls.mono HL.out ?_
  rintro r w2 ⟨rfl, b2⟩
  have HB := Lib.hid b2
  clear b2
  go_wp2_with fail
  go_ret2
  exact ⟨rfl, HB.out.trans ((Gw.alloc w2 _).mono HB.out.size)⟩
theorem place_hi (w : World) (x : BitVec 64) (h : 8192 < U64 x) : Calls Try.prog 115 #[.int .u64 (U64 x)] w (RetP (.tuple #[.int .i64 0, .bool false]) w) := by
  go_enter Try.func115, Try.ntmps115
  go_wp2
  go_ret2
  exact ⟨rfl, (by repeat (first | with_reducible assumption | with_reducible exact Below.refl _ _ | with_reducible apply bdN | with_reducible apply Below.drew | with_reducible refine Below.alloc ?_ (by simp) _ | with_reducible refine Below.setCell ?_ (by simp) _))⟩
theorem place_lo (w : World) (n : Nat) (h : (n : Int) ≤ 8192) : Calls Try.prog 115 #[.int .u64 (n : Int)] w (RetP (.tuple #[.int .i64 ((n : Int) - 1), .bool true]) w) := by
  go_enter Try.func115, Try.ntmps115
  go_wp2
  go_ret2
  exact ⟨rfl, (by repeat (first | with_reducible assumption | with_reducible exact Below.refl _ _ | with_reducible apply bdN | with_reducible apply Below.drew | with_reducible refine Below.alloc ?_ (by simp) _ | with_reducible refine Below.setCell ?_ (by simp) _))⟩
def insB (b t : Nat) (a : Int) : Bool := decide ((b : Int) ≤ a ∧ a < (t : Int))
theorem inside_c (w : World) (B s g : Nat) (v : Value) (ws : List (BitVec 64)) (b t e : Nat) (p : SpAt w B s g v ws b t e) (a : Int) :
    Calls Try.prog 93 #[.pointer (some ⟨s, 0, none⟩), .int .i64 a] w (RetP (.bool (insB b t a)) w) := by
  obtain ⟨c0, c1, c2, c3⟩ := p.four
  unfold insB
  clear p
  by_cases h1 : (b : Int) ≤ a
  · by_cases h2 : a < (t : Int)
    · rw [show decide ((b : Int) ≤ a ∧ a < (t : Int)) = true by simp [h1, h2]]
      go_enter Try.func93, Try.ntmps93
      go_wp2
      go_ret
      exact ⟨by first | rfl | simp, (by repeat (first | with_reducible assumption | with_reducible exact Below.refl _ _ | with_reducible apply bdN | with_reducible apply Below.drew | with_reducible refine Below.alloc ?_ (by simp) _ | with_reducible refine Below.setCell ?_ (by simp) _))⟩
    · rw [show decide ((b : Int) ≤ a ∧ a < (t : Int)) = false by simp [h2]]
      go_enter Try.func93, Try.ntmps93
      go_wp2
      go_ret
      exact ⟨by first | rfl | simp, (by repeat (first | with_reducible assumption | with_reducible exact Below.refl _ _ | with_reducible apply bdN | with_reducible apply Below.drew | with_reducible refine Below.alloc ?_ (by simp) _ | with_reducible refine Below.setCell ?_ (by simp) _))⟩
  · rw [show decide ((b : Int) ≤ a ∧ a < (t : Int)) = false by simp [h1]]
    go_enter Try.func93, Try.ntmps93
    go_wp2
    go_ret
    exact ⟨by first | rfl | simp, (by repeat (first | with_reducible assumption | with_reducible exact Below.refl _ _ | with_reducible apply bdN | with_reducible apply Below.drew | with_reducible refine Below.alloc ?_ (by simp) _ | with_reducible refine Below.setCell ?_ (by simp) _))⟩
/-- Bytes that are not an object's. -/
def noD (N : Nat) (i n : Int) : Prop := i < 0 ∨ (0 ≤ i ∧ n < 0) ∨ (0 ≤ i ∧ 0 ≤ n ∧ (N : Int) < i) ∨ (0 ≤ i ∧ 0 ≤ n ∧ i ≤ (N : Int) ∧ (N : Int) - i < n)
theorem data_ok (w : World) (B s g : Nat) (v : Value) (ws : List (BitVec 64)) (b t e : Nat) (p : SpAt w B s g v ws b t e) (hl : ws.length ≤ 100000) (a i n : Nat) (h1 : b ≤ a) (h2 : a < t) (hg : goodX (ws.getD a 0#64) (t - a) = true) (hi : i + n ≤ B0 (ws.getD a 0#64)) :
    Calls Try.prog 94 #[.pointer (some ⟨s, 0, none⟩), .int .i64 a, .int .i64 i, .int .i64 n] w (RetP (.tuple #[.int .i64 ((8 * (a + 1 + P0 (ws.getD a 0#64)) + i : Nat) : Int), .int .i64 0]) w) := by
  have HL := Lib.hid (look_ok w B s g v ws b t e p hl a h1 h2 hg)
  obtain ⟨P, hP⟩ : ∃ P, P = P0 (ws.getD a 0#64) := ⟨_, rfl⟩
  obtain ⟨N, hN⟩ : ∃ P, P = B0 (ws.getD a 0#64) := ⟨_, rfl⟩
  obtain ⟨_, hb1, hb2, _⟩ := head_of hg
  rw [← hP, ← hN] at HL
  rw [← hN] at hi hb2
  rw [← hP] at hb1 ⊢
  have q1 : (a : Int) ≤ 100000 := by have := p.te; have := p.el; omega
  have q2 : (0 : Int) ≤ (a : Int) := by omega
  have q3 : (0 : Int) ≤ (i : Int) := by omega
  have q4 : (0 : Int) ≤ (n : Int) := by omega
  have q5 : (N : Int) ≤ 1024 := by omega
  have q6 : (P : Int) ≤ 64 := by omega
  have q7 : (i : Int) ≤ (N : Int) := by omega
  have q8 : (n : Int) ≤ (N : Int) - (i : Int) := by omega
  have e0 : ((8 * (a + 1 + P) + i : Nat) : Int) = ((a : Int) + 1 + (P : Int)) * 8 + (i : Int) := by omega
  rw [e0]
  clear hP hN p hl h1 h2 hg hb1 hb2 hi e0
  go_enter Try.func94, Try.ntmps94
  go_wp2_with fail
  refine Calls.mono HL.out ?_
  rintro r w2 ⟨rfl, b2⟩
  have HB := Lib.hid b2
  clear b2
  go_wp2_with fail
  go_ret2
  exact ⟨rfl, HB.out.trans ((Gw.alloc w2 _).mono HB.out.size)⟩
end Go.Proofs.Ytkkjnahjmomjgaa
/- obj.Ptr, SetPtr, Read, Write. Conditions: lengths. -/
namespace Go.Proofs.Ytkkjnahjmomjgaa
set_option linter.unusedVariables false
set_option linter.unusedSimpArgs false
open Go.RowKit
theorem ofNat_U64 (n : Nat) (h : n < 2 ^ 64) : U64 (BitVec.ofNat 64 n) = (n : Int) := by
  unfold U64; rw [BitVec.toNat_ofNat, Nat.mod_eq_of_lt h]
/-- May a word be a pointer's? -/
def pokB (b t : Nat) (y : BitVec 64) : Bool := decide (y.toNat = 0 ∨ (b < y.toNat ∧ y.toNat ≤ t))
/-- What Ptr answers of a word that is a pointer's. -/
def ptV (b t : Nat) (y : BitVec 64) : Int := if pokB b t y = true then (y.toNat : Int) - 1 else 0
def ptE (b t : Nat) (y : BitVec 64) : Int := if pokB b t y = true then 0 else 2
theorem pt_yes {b t : Nat} {y : BitVec 64} (h : pokB b t y = true) : ptV b t y = (y.toNat : Int) - 1 ∧ ptE b t y = 0 := by unfold ptV ptE; rw [if_pos h, if_pos h]; exact ⟨rfl, rfl⟩
theorem pt_no {b t : Nat} {y : BitVec 64} (h : pokB b t y = false) : ptV b t y = 0 ∧ ptE b t y = 2 := by unfold ptV ptE; rw [if_neg (by rw [h]; simp), if_neg (by rw [h]; simp)]; exact ⟨rfl, rfl⟩
theorem word_in {ws : List (BitVec 64)} {b t e a k : Nat} {x : BitVec 64} (hx : goodX x (t - a) = true) (h2 : a < t) (hte : t ≤ e) (hel : e ≤ ws.length) (hk : k < P0 x) : a + 1 + k < ws.length ∧ a + 1 + k < t := by
  obtain ⟨_, _, _, h, _, h3⟩ := head_of hx
  omega
set_option maxHeartbeats 1000000
set_option maxRecDepth 100000
theorem Ptr_c (w : World) (B s g : Nat) (v : Value) (ws : List (BitVec 64)) (b t e : Nat) (p : SpAt w B s g v ws b t e) (hl : ws.length ≤ 8192) (a k : Nat) (h1 : b ≤ a) (h2 : a < t) (hg : goodX (ws.getD a 0#64) (t - a) = true) (hk : k < P0 (ws.getD a 0#64)) :
    Calls Try.prog 109 #[.pointer (some ⟨s, 0, none⟩), .int .i64 a, .int .i64 k] w (RetP (.tuple #[.int .i64 (ptV b t (ws.getD (a + 1 + k) 0#64)), .int .i64 (ptE b t (ws.getD (a + 1 + k) 0#64))]) w) := by
  have HL := Lib.hid (ptr_ok w B s g v ws b t e p (by omega) a k h1 h2 hg hk)
  obtain ⟨hj, hjt⟩ := word_in (b := b) hg h2 p.te p.el hk
  obtain ⟨J, hJ⟩ : ∃ J, J = a + 1 + k := ⟨_, rfl⟩
  rw [← hJ] at HL hj ⊢
  obtain ⟨y, hy⟩ : ∃ y, y = ws.getD J 0#64 := ⟨_, rfl⟩
  have hgy : ws[J] = y := by rw [hy, List.getD_eq_getElem?_getD, List.getElem?_eq_getElem hj]; rfl
  have HGt := Lib.hid (fun W (hb : Below w.heap.size w W) => get_in W B g v ws J hj (by omega) (p.below hb).mem)
  rw [hgy] at HGt
  have HIn := Lib.hid (fun W (hb : Below w.heap.size w W) => inside_c W B s g v ws b t e (p.below hb))
  have HC := Lib.hid (fun W (hb : Below w.heap.size w W) => (p.below hb).four.1)
  have ht : t ≤ 8192 := by have := p.te; have := p.el; omega
  rw [← hy]
  have HT := Lib.hid ht
  obtain ⟨PV, hPV⟩ : ∃ v, v = ptV b t y := ⟨_, rfl⟩
  obtain ⟨PE, hPE⟩ : ∃ v, v = ptE b t y := ⟨_, rfl⟩
  rw [← hPV, ← hPE]
  have HV := Lib.hid (And.intro hPV hPE)
  clear hPV hPE
  clear hJ hy hgy p hl h1 h2 hg hk hj hjt ht
  go_enter Try.func109, Try.ntmps109
  go_wp2_with fail
  refine Calls.mono HL.out ?_
  rintro r w2 ⟨rfl, b2⟩
  have HB2 := Lib.hid b2
  have c0 := HC.out w2 b2
  clear b2 HL
  go_wp2_with fail
  refine Calls.mono (HGt.out w2 HB2.out) ?_
  rintro r w3 ⟨rfl, rfl⟩
  by_cases hhi : 8192 < U64 y
  · have HPl := Lib.hid (place_hi w3 y hhi)
    have hno : pokB b t y = false := by
      unfold pokB
      rw [decide_eq_false_iff_not]
      have := HT.out
      unfold U64 at hhi
      omega
    have e1 : PV = 0 := by rw [HV.out.1, (pt_no hno).1]
    have e2 : PE = 2 := by rw [HV.out.2, (pt_no hno).2]
    subst e1
    subst e2
    clear hhi hno
    go_wp2_with fail
    refine Calls.mono HPl.out ?_
    rintro r w4 ⟨rfl, b4⟩
    have HB4 := Lib.hid (HB2.out.trans (b4.mono HB2.out.size))
    clear b4
    go_wp2_with fail
    go_ret2
    exact ⟨rfl, HB4.out⟩
  · obtain ⟨n, hn⟩ : ∃ n, n = y.toNat := ⟨_, rfl⟩
    have hU : U64 y = (n : Int) := by rw [hn]; rfl
    have hn2 : (n : Int) ≤ 8192 := by omega
    have HPl := Lib.hid (place_lo w3 n hn2)
    have HNy := Lib.hid hn
    have hpk : pokB b t y = decide (n = 0 ∨ (b < n ∧ n ≤ t)) := by unfold pokB; rw [← hn]
    have HPk := Lib.hid hpk
    rw [hU]
    clear hhi hpk hn hU
    go_wp2_with fail
    refine Calls.mono HPl.out ?_
    rintro r w4 ⟨rfl, b4⟩
    have HB4 := Lib.hid (HB2.out.trans (b4.mono HB2.out.size))
    clear b4
    by_cases hn0 : n = 0
    · have hyes : pokB b t y = true := by rw [HPk.out]; simp [hn0]
      have e1 : PV = -1 := by rw [HV.out.1, (pt_yes hyes).1, ← HNy.out, hn0]; rfl
      have e2 : PE = 0 := by rw [HV.out.2, (pt_yes hyes).2]
      subst e1
      subst e2
      obtain rfl := hn0
      clear hyes HPk HNy
      go_wp2_with fail
      go_ret2
      exact ⟨rfl, HB4.out⟩
    · obtain ⟨m, hm⟩ : ∃ m : Nat, (n : Int) - 1 = (m : Int) := ⟨n - 1, by omega⟩
      have q1 : ((m : Int) == -1) = false := by simp
      have q2 : ((m : Int) != -1) = true := by simp
      have q3 : decide ((m : Int) = -1) = false := by simp
      rw [hm]
      have HI := Lib.hid (HIn.out w4 HB4.out (m : Int))
      obtain ⟨r, hr⟩ : ∃ r, r = insB b t (m : Int) := ⟨_, rfl⟩
      have hpr : pokB b t y = r := by
        rw [HPk.out, hr]
        unfold insB
        rw [decide_eq_decide]
        omega
      rw [← hr] at HI
      cases r with
      | true =>
        have e1 : PV = (m : Int) := by rw [HV.out.1, (pt_yes hpr).1, ← HNy.out, hm]
        have e2 : PE = 0 := by rw [HV.out.2, (pt_yes hpr).2]
        subst e1
        subst e2
        clear hm hr hpr hn0 hn2 HPk HNy
        go_wp2_with fail
        refine Calls.mono HI.out ?_
        rintro r2 w5 ⟨rfl, b5⟩
        have HB5 := Lib.hid (HB4.out.trans (b5.mono HB4.out.size))
        clear b5
        go_wp2_with fail
        go_ret2
        exact ⟨rfl, HB5.out⟩
      | false =>
        have e1 : PV = 0 := by rw [HV.out.1, (pt_no hpr).1]
        have e2 : PE = 2 := by rw [HV.out.2, (pt_no hpr).2]
        subst e1
        subst e2
        clear hm hr hpr hn0 hn2 HPk HNy
        go_wp2_with fail
        refine Calls.mono HI.out ?_
        rintro r2 w5 ⟨rfl, b5⟩
        have HB5 := Lib.hid (HB4.out.trans (b5.mono HB4.out.size))
        clear b5
        go_wp2_with fail
        go_ret2
        exact ⟨rfl, HB5.out⟩
end Go.Proofs.Ytkkjnahjmomjgaa
/- mem: Bytes. Conditions: lengths. -/
namespace Go.Proofs.Ytkkjnahjmomjgaa
set_option linter.unusedVariables false
set_option linter.unusedSimpArgs false
open Go.RowKit
def byteAt (ws : List (BitVec 64)) (k : Nat) : BitVec 8 := ((ws.getD (k / 8) 0#64) >>> (8 * (k % 8))).setWidth 8
def bytesM (ws : List (BitVec 64)) (a n : Nat) : List (BitVec 8) := (List.range n).map fun i => byteAt ws (a + i)
def partB (xs : List (BitVec 8)) (k : Nat) : List (BitVec 8) := xs.take k ++ List.replicate (xs.length - k) 0#8
theorem partB_len (xs : List (BitVec 8)) (k : Nat) (h : k ≤ xs.length) : (partB xs k).length = xs.length := by unfold partB; simp; omega
theorem partB_set (xs : List (BitVec 8)) (k : Nat) (hk : k < xs.length) : (partB xs k).set k xs[k] = partB xs (k + 1) := by
  have e : List.replicate (xs.length - k) 0#8 = 0#8 :: List.replicate (xs.length - (k + 1)) 0#8 := by
    rw [← List.replicate_succ]; congr 1; omega
  have ht : xs.take (k + 1) = xs.take k ++ [xs[k]] := List.take_succ_eq_append_getElem hk
  unfold partB
  rw [e, ht, List.set_append_right _ _ (by simp; omega)]
  have e3 : k - (xs.take k).length = 0 := by simp; omega
  rw [e3, List.append_assoc]
  simp
theorem u8_shr (y : BitVec 64) (s : Nat) : U64 y / 2 ^ s % 256 = U8 ((y >>> s).setWidth 8) := by
  rw [shrU64]
  unfold U64 U8
  rw [BitVec.toNat_setWidth]
  omega
set_option maxHeartbeats 400000
set_option maxRecDepth 100000
theorem bytes_in (w : World) (B g : Nat) (v : Value) (ws : List (BitVec 64)) (a n : Nat) (hi : a + n ≤ 8 * ws.length) (hl : ws.length ≤ 100000) (h : MemAt w B g v ws) :
    Calls Try.prog 100 #[.pointer (some ⟨g, 0, none⟩), .int .i64 a, .int .i64 n] w (MkEP b8 5 (bytesM ws a n) 0 w) := by
  have HL := Lib.hid (len_c w B g v ws h)
  have HI := Lib.hid (insideM_c w ((8 * ws.length : Nat) : Int) (a : Int) n (by omega) (by omega) (by omega) (by omega) (by omega) (by omega))
  rw [show inM ((8 * ws.length : Nat) : Int) (a : Int) n = true from by unfold inM; simp; omega] at HI
  obtain ⟨A, c, e, hc⟩ := h.row.form
  subst e
  have HK := Lib.hid h.blk
  have HR := Lib.hid h.row.rd
  obtain ⟨N, hN⟩ : ∃ N, N = ws.length := ⟨_, rfl⟩
  obtain ⟨M, hM⟩ : ∃ M, M = 8 * ws.length := ⟨_, rfl⟩
  rw [← hM] at HI
  rw [← hN] at HL HK
  have q1 : (N : Int) * 8 = (M : Int) := by omega
  have HM := Lib.hid hM
  have HAN := Lib.hid hi
  have HNN := Lib.hid hN
  have q2 : (M : Int) ≤ 800000 := by omega
  have q3 : (n : Int) ≤ 800000 := by omega
  clear h hc hM hN hi hl
  go_enter Try.func100, Try.ntmps100
  go_wp2_with fail
  refine Calls.mono HL.out ?_
  rintro e w1 ⟨rfl, rfl⟩
  go_wp2_with fail
  refine Calls.mono HI.out ?_
  rintro e w2 ⟨rfl, rfl⟩
  go_wp2_with (at_make; refine wp_make (f := b8) one8 rfl _ _ rfl 0#8 rfl w2.heap.size n _ _ _ _ rfl rfl rfl rfl (by omega) (by decide) (Nat.le_refl _) ?_; rintro q w3 hq ho3 hb3 _)
  rw [← hq]
  clear hq HL HI q1
  obtain ⟨xs, hxs⟩ : ∃ xs, xs = bytesM ws a n := ⟨_, rfl⟩
  have hxl : xs.length = n := by rw [hxs]; unfold bytesM; simp
  have HXL := Lib.hid hxl
  have HXS := Lib.hid hxs
  rw [← hxs]
  clear hxs hxl
  go_loopw [22] (fun i wr => ∃ k : Nat, k ≤ n ∧ i = .int .i64 k ∧ Ow b8 5 wr w2.heap.size (.slice (some ⟨q, 0, none⟩) n n) (partB xs k) ∧ Below w2.heap.size w2 wr) (fun i _ => n - (Go.RowKit.intOf i).toNat)
  case atStart => exact ⟨0, by omega, rfl, by have := HXL.out; simpa [partB, this] using ho3, hb3⟩
  case round =>
    obtain ⟨k, hkl, rfl, how, hB⟩ := hrel
    by_cases hlt : k < n
    · have p1 : (0 : Int) ≤ (k : Int) := by omega
      have p2 : (k : Int) < (n : Int) := by omega
      have hin := HAN.out
      have hNo := HNN.out
      have hMo := HM.out
      have p3 : (a : Int) + (k : Int) ≤ 800000 := by omega
      obtain ⟨j, hj⟩ : ∃ j, j = (a + k) / 8 := ⟨_, rfl⟩
      obtain ⟨b, hb⟩ : ∃ b, b = (a + k) % 8 := ⟨_, rfl⟩
      have hjl : j < ws.length := by omega
      have c0 := (HK.out.below hB HK.out.lt).cell 0
      obtain ⟨ad, rfl, hadb, hcl⟩ := (HR.out.below hB) j hjl
      obtain ⟨y, hy⟩ : ∃ y, y = ws[j] := ⟨_, rfl⟩
      rw [← hy] at hcl
      have HY := Lib.hid hy
      unfold u64v at hcl
      clear hy
      have p4 : (0 : Int) ≤ (j : Int) := by omega
      have p5 : (j : Int) < (N : Int) := by omega
      have HJ := Lib.hid (And.intro hj.symm hb.symm)
      obtain ⟨s, hs⟩ : ∃ s, s = a + k := ⟨_, rfl⟩
      have d0 : (a : Int) + (k : Int) = (s : Int) := by omega
      have d1 : (s : Int) / 8 = (j : Int) := by omega
      have d2 : (s : Int) % 8 = (b : Int) := by omega
      have d3 : (s : Int).tdiv 8 = (j : Int) := by rw [← d1]; exact Int.tdiv_eq_ediv_of_nonneg (by omega)
      have d4 : (s : Int).tmod 8 = (b : Int) := by rw [← d2]; exact Int.tmod_eq_emod_of_nonneg (by omega)
      have d5 : (0 : Int) ≤ (s : Int) := by omega
      have d6 : (s : Int) ≤ 800000 := by omega
      have d7 : (b : Int) < 8 := by omega
      have d8 : (0 : Int) ≤ (b : Int) := by omega
      clear hj hb hs hin hNo hMo hadb
      have hpl := partB_len xs k (by rw [HXL.out]; omega)
      have hxk : k < xs.length := by rw [HXL.out]; exact hlt
      have hf := how.free k
      have hge := how.ge
      have hcell := how.cell (j := k) (by rw [hpl]; exact hxk)
      have hset := how.set (j := k) (by rw [hpl]; exact hxk) xs[k]
      rw [partB_set xs k hxk] at hset
      obtain ⟨z, hz⟩ : ∃ z, z = (partB xs k)[k]'(by rw [hpl]; exact hxk) := ⟨_, rfl⟩
      rw [← hz] at hcell
      unfold b8 at hcell hset
      have hB' : ∀ m u, Below w2.heap.size w2 ((wr.drewN m).setCell ⟨q, k, none⟩ u) := fun m u => (bdN hB m).setCell (p := ⟨q, k, none⟩) hge.1 _
      have hval : xs[k] = (y >>> (8 * b)).setWidth 8 := by
        have e1 : xs[k] = byteAt ws (a + k) := by
          have := HXS.out
          subst this
          simp [bytesM]
        rw [e1, HY.out]
        unfold byteAt
        rw [HJ.out.1, HJ.out.2, List.getD_eq_getElem?_getD, List.getElem?_eq_getElem hjl]
        rfl
      rw [hval, ← u8_shr] at hset
      have HS := Lib.hid hset
      have HB' := Lib.hid hB'
      clear hset hB' hz how hge hval hpl hxk
      go_wp2_with fail
      go_roundw
      case rel => exact ⟨k + 1, by omega, by go_num, HS.out, HB'.out 0 _⟩
      case measure => (first | (simp [Go.RowKit.intOf]; done) | (simp [Go.RowKit.intOf]; omega))
    · have hkk : k = n := by omega
      subst hkk
      have hw : partB xs k = xs := by unfold partB; rw [HXL.out]; simp; rw [← HXL.out]; simp
      rw [hw] at how
      have hxl := HXL.out
      subst hxl
      go_wp2_with fail
      go_ret2
      rw [← HXS.out]
      exact MkEP.of how hB
end Go.Proofs.Ytkkjnahjmomjgaa
/- mem: bytes set in words, as lists. Conditions: lengths. -/
namespace Go.Proofs.Ytkkjnahjmomjgaa
set_option linter.unusedVariables false
set_option linter.unusedSimpArgs false
open Go.RowKit
def setB (ws : List (BitVec 64)) (k : Nat) (x : BitVec 8) : List (BitVec 64) := ws.set (k / 8) (((ws.getD (k / 8) 0#64) &&& ~~~(255#64 <<< (8 * (k % 8)))) ||| ((x.setWidth 64) <<< (8 * (k % 8))))
theorem setB_len (ws : List (BitVec 64)) (k : Nat) (x : BitVec 8) : (setB ws k x).length = ws.length := by simp [setB]
theorem ff_bit (q : Nat) : (255#64).getLsbD q = decide (q < 8) := by
  show ((BitVec.allOnes 8).setWidth 64).getLsbD q = _
  rw [BitVec.getLsbD_setWidth, BitVec.getLsbD_allOnes, Bool.eq_iff_iff]
  simp only [Bool.and_eq_true, decide_eq_true_eq]
  omega
theorem byteAt_bit (ws : List (BitVec 64)) (k i : Nat) (hi : i < 8) : (byteAt ws k).getLsbD i = (ws.getD (k / 8) 0#64).getLsbD (8 * (k % 8) + i) := by
  unfold byteAt
  rw [BitVec.getLsbD_setWidth, BitVec.getLsbD_ushiftRight]
  simp [hi]
theorem setB_at (ws : List (BitVec 64)) (k : Nat) (x : BitVec 8) (hk : k < 8 * ws.length) : (setB ws k x).getD (k / 8) 0#64 = ((ws.getD (k / 8) 0#64) &&& ~~~(255#64 <<< (8 * (k % 8)))) ||| ((x.setWidth 64) <<< (8 * (k % 8))) := by
  unfold setB
  rw [List.getD_eq_getElem?_getD, List.getElem?_set]
  have : k / 8 < ws.length := by omega
  simp [this]
theorem setB_far (ws : List (BitVec 64)) (k j : Nat) (x : BitVec 8) (h : j ≠ k / 8) : (setB ws k x).getD j 0#64 = ws.getD j 0#64 := by
  unfold setB
  rw [List.getD_eq_getElem?_getD, List.getElem?_set, if_neg (fun e => h e.symm), ← List.getD_eq_getElem?_getD]
theorem byteAt_setB (ws : List (BitVec 64)) (k j : Nat) (x : BitVec 8) (hk : k < 8 * ws.length) : byteAt (setB ws k x) j = if j = k then x else byteAt ws j := by
  apply BitVec.eq_of_getLsbD_eq
  intro i hi
  rw [byteAt_bit _ _ _ hi]
  by_cases e : j / 8 = k / 8
  · rw [e, setB_at ws k x hk, BitVec.getLsbD_or, BitVec.getLsbD_and, BitVec.getLsbD_not, BitVec.getLsbD_shiftLeft, BitVec.getLsbD_shiftLeft, BitVec.getLsbD_setWidth, ff_bit]
    have l1 : 8 * (j % 8) + i < 64 := by omega
    rcases Nat.lt_trichotomy (j % 8) (k % 8) with m | m | m
    · have l2 : 8 * (j % 8) + i < 8 * (k % 8) := by omega
      rw [if_neg (show ¬ j = k from by omega), byteAt_bit _ _ _ hi, e]
      simp [l1, l2]
    · have l2 : 8 * (j % 8) + i - 8 * (k % 8) = i := by omega
      have l3 : ¬ 8 * (j % 8) + i < 8 * (k % 8) := by omega
      rw [if_pos (show j = k from by omega), l2]
      simp [l1, l3, hi, show i < 64 from by omega]
    · have l3 : ¬ 8 * (j % 8) + i < 8 * (k % 8) := by omega
      have l4 : ¬ 8 * (j % 8) + i - 8 * (k % 8) < 8 := by omega
      rw [if_neg (show ¬ j = k from by omega), byteAt_bit _ _ _ hi, e]
      have l5 : x.getLsbD (8 * (j % 8) + i - 8 * (k % 8)) = false := BitVec.getLsbD_of_ge _ _ (by omega)
      simp [l1, l3, l4, l5]
  · rw [setB_far ws k _ x e, if_neg (fun h => e (by rw [h])), byteAt_bit _ _ _ hi]
/-- The words when k of the bytes lie in them from byte a on. -/
def putK (ws : List (BitVec 64)) (a : Nat) (bs : List (BitVec 8)) : Nat → List (BitVec 64)
  | 0 => ws
  | k + 1 => setB (putK ws a bs k) (a + k) (bs.getD k 0#8)
theorem putK_len (ws : List (BitVec 64)) (a : Nat) (bs : List (BitVec 8)) (k : Nat) : (putK ws a bs k).length = ws.length := by
  induction k with
  | zero => rfl
  | succ k ih => show (setB _ _ _).length = _; rw [setB_len, ih]
theorem byteAt_putK (ws : List (BitVec 64)) (a : Nat) (bs : List (BitVec 8)) (j : Nat) : ∀ k, a + k ≤ 8 * ws.length → byteAt (putK ws a bs k) j = if a ≤ j ∧ j < a + k then bs.getD (j - a) 0#8 else byteAt ws j
  | 0, _ => by
    rw [if_neg (by omega)]; rfl
  | k + 1, h => by
    show byteAt (setB _ _ _) j = _
    rw [byteAt_setB _ _ _ _ (by rw [putK_len]; omega), byteAt_putK ws a bs j k (by omega)]
    by_cases e : j = a + k
    · subst e
      rw [if_pos rfl, if_pos (by omega)]
      congr 1; omega
    · rw [if_neg e]
      by_cases c : a ≤ j ∧ j < a + k
      · rw [if_pos c, if_pos (by omega)]
      · rw [if_neg c, if_neg (by omega)]
end Go.Proofs.Ytkkjnahjmomjgaa
/- mem: SetBytes. Conditions: lengths. -/
namespace Go.Proofs.Ytkkjnahjmomjgaa
set_option linter.unusedVariables false
set_option linter.unusedSimpArgs false
open Go.RowKit
theorem shl255 (s : Nat) : IntKind.u64.wrap (255 * 2 ^ s) = U64 (255#64 <<< s) := shlU64 255#64 s
attribute [local go_sem] shl255 shlU64 andNotU64 orU64 u8_u64 wrapU64
set_option maxHeartbeats 400000
set_option maxRecDepth 100000
theorem sb_reg (Q : Exit → Act → World → Prop) (a0 : Act) (w : World) (g q N c k j s : Nat) (x : BitVec 8) (y : BitVec 64) (hb : Bk w g 108 #[.slice (some ⟨q, 0, none⟩) N c]) (hq : q < w.heap.size) (hy : w.cell? ⟨q, j, none⟩ = some (.int .u64 (U64 y))) (d3 : (k : Int).tdiv 8 = (j : Int)) (p1 : (0 : Int) ≤ (j : Int)) (p2 : (j : Int) < (N : Int)) (p3 : (0 : Int) ≤ (s : Int)) (p4 : (s : Int) < 64) (p5 : (j : Int) ≤ 1000000) (hsz : a0.tmps.size = 56) (sl0 : a0.tmps.getD 0 undef = .pointer (some ⟨g, 0, none⟩)) (sl8 : a0.tmps.getD 8 undef = .int .u8 (U8 x)) (sl9 : a0.tmps.getD 9 undef = .int .i64 k) (sl10 : a0.tmps.getD 10 undef = .int .i64 s)
    (fin : ∀ (vals : Nat → Value) (w1 : World), Below w.heap.size w w1 → (IsV (.int .u64 (U64 ((y &&& ~~~(255#64 <<< s)) ||| (x.setWidth 64 <<< s))))) (vals 21) w1 → (IsV (.pointer (some ⟨q, j, none⟩))) (vals 22) w1 → wpList Try.prog #[{ dst := none, op := Go.Op.store 57 (Go.Operand.tmp 54) (Go.Operand.tmp 53), type := 0, pos := "", after := #[], guard := none }] Q [{ dst := none, op := Go.Op.store 57 (Go.Operand.tmp 54) (Go.Operand.tmp 53), type := 0, pos := "", after := #[], guard := none }] (putD vals [32, 33, 34, 35, 36, 37, 38, 39, 40, 41, 42, 43, 44, 45, 46, 47, 48, 49, 50, 51, 52, 53, 54] 0 a0) w1) :
    (Code.region 8 (regIn Try.f68 8) true).wp Try.prog Q a0 w := by
  refine region_by_tail (m := 23) (G := fun w w1 => Below w.heap.size w w1) [IsV (.pointer (some ⟨g, 0, none⟩)),
    IsV (.pointer (some ⟨g, 0, none⟩)),
    IsV (.pointer (some ⟨g, 0, none⟩)),
    IsV (.slice (some ⟨q, 0, none⟩) N c),
    IsV (.int .i64 k),
    IsV (.int .i64 j),
    IsV (.pointer (some ⟨g, 0, none⟩)),
    IsV (.pointer (some ⟨g, 0, none⟩)),
    IsV (.pointer (some ⟨g, 0, none⟩)),
    IsV (.slice (some ⟨q, 0, none⟩) N c),
    IsV (.int .i64 k),
    IsV (.int .i64 j),
    IsV (.pointer (some ⟨q, j, none⟩)),
    IsV (.int .u64 (U64 y)),
    IsV (.int .i64 s),
    IsV (.int .u64 (U64 (255#64 <<< s))),
    IsV (.int .u64 (U64 (y &&& ~~~(255#64 <<< s)))),
    IsV (.int .u8 (U8 x)),
    IsV (.int .u64 (U64 (x.setWidth 64))),
    IsV (.int .i64 s),
    IsV (.int .u64 (U64 (x.setWidth 64 <<< s))),
    IsV (.int .u64 (U64 ((y &&& ~~~(255#64 <<< s)) ||| (x.setWidth 64 <<< s)))),
    IsV (.pointer (some ⟨q, j, none⟩))]
    [32, 33, 34, 35, 36, 37, 38, 39, 40, 41, 42, 43, 44, 45, 46, 47, 48, 49, 50, 51, 52, 53, 54] (by kernel_rfl) (Gw.drew _) Gw.trans (by rw [hsz]; kernel_rfl) (by kernel_rfl) ?_ ?_ ?_
  · intro f hf
    simp only [List.mem_cons, List.not_mem_nil, or_false] at hf
    rcases hf with rfl | rfl | rfl | rfl | rfl | rfl | rfl | rfl | rfl | rfl | rfl | rfl | rfl | rfl | rfl | rfl | rfl | rfl | rfl | rfl | rfl | rfl | rfl <;> intro v a b h g <;> first | exact IsV.mono h
  · refine ⟨?_, ?_, ?_, ?_, ?_, ?_, ?_, ?_, ?_, ?_, ?_, ?_, ?_, ?_, ?_, ?_, ?_, ?_, ?_, ?_, ?_, ?_, ?_, trivial⟩
    · exact owes_mv 0 (by kernel_rfl) (by kernel_rfl) (by kernel_rfl) sl0 (fun _ => rfl)
    · refine owes_v (Go.Op.nilCheck (Go.Operand.tmp 32)) 0 [0] (by kernel_rfl) (by kernel_rfl) (by kernel_rfl) rfl fun vals w1 ρ hG hF hρ hcst hfun => ?_
      have e32 : ρ (.tmp 32) = .pointer (some ⟨g, 0, none⟩) := ((hρ 32).trans (slotJ [0] (by rw [hsz]; decide) (by kernel_rfl))).trans (hF 0 (by decide))
      clear hρ hF hcst hfun sl0 sl8 sl9 sl10 fin
      exact opv_val (by go_simp <;> rfl) ⟨gw_self _, rfl⟩
    · refine owes_v (Go.Op.fieldAddr 108 (Go.Operand.tmp 33) 0) 0 [1] (by kernel_rfl) (by kernel_rfl) (by kernel_rfl) rfl fun vals w1 ρ hG hF hρ hcst hfun => ?_
      have e33 : ρ (.tmp 33) = .pointer (some ⟨g, 0, none⟩) := ((hρ 33).trans (slotJ [1] (by rw [hsz]; decide) (by kernel_rfl))).trans (hF 1 (by decide))
      clear hρ hF hcst hfun sl0 sl8 sl9 sl10 fin
      exact opv_val (by go_simp <;> rfl) ⟨gw_self _, rfl⟩
    · refine owes_v (Go.Op.load 33 (Go.Operand.tmp 34)) 33 [2] (by kernel_rfl) (by kernel_rfl) (by kernel_rfl) rfl fun vals w1 ρ hG hF hρ hcst hfun => ?_
      have e34 : ρ (.tmp 34) = .pointer (some ⟨g, 0, none⟩) := ((hρ 34).trans (slotJ [2] (by rw [hsz]; decide) (by kernel_rfl))).trans (hF 2 (by decide))
      have c0 := (hb.below hG hb.lt).cell 0
      clear hρ hF hcst hfun sl0 sl8 sl9 sl10 fin
      exact opv_val (by go_simp <;> rfl) ⟨gw_self _, rfl⟩
    · exact owes_mv 9 (by kernel_rfl) (by kernel_rfl) (by kernel_rfl) sl9 (fun _ => rfl)
    · refine owes_v (Go.Op.binOp Go.BinOp.quo 3 (Go.Operand.tmp 36) (Go.Operand.const (Go.Value.int Go.IntKind.i64 8)) 3) 3 [4] (by kernel_rfl) (by kernel_rfl) (by kernel_rfl) rfl fun vals w1 ρ hG hF hρ hcst hfun => ?_
      have e36 : ρ (.tmp 36) = .int .i64 k := ((hρ 36).trans (slotJ [4] (by rw [hsz]; decide) (by kernel_rfl))).trans (hF 4 (by decide))
      have kw0 : IntKind.i64.wrap ((j : Int)) = (j : Int) := wrapIn (by omega) (by omega)
      clear hρ hF hfun sl0 sl8 sl9 sl10 fin
      exact opv_val (by go_simp <;> rfl) ⟨gw_self _, rfl⟩
    · exact owes_mv 0 (by kernel_rfl) (by kernel_rfl) (by kernel_rfl) sl0 (fun _ => rfl)
    · refine owes_v (Go.Op.nilCheck (Go.Operand.tmp 38)) 0 [6] (by kernel_rfl) (by kernel_rfl) (by kernel_rfl) rfl fun vals w1 ρ hG hF hρ hcst hfun => ?_
      have e38 : ρ (.tmp 38) = .pointer (some ⟨g, 0, none⟩) := ((hρ 38).trans (slotJ [6] (by rw [hsz]; decide) (by kernel_rfl))).trans (hF 6 (by decide))
      clear hρ hF hcst hfun sl0 sl8 sl9 sl10 fin
      exact opv_val (by go_simp <;> rfl) ⟨gw_self _, rfl⟩
    · refine owes_v (Go.Op.fieldAddr 108 (Go.Operand.tmp 39) 0) 0 [7] (by kernel_rfl) (by kernel_rfl) (by kernel_rfl) rfl fun vals w1 ρ hG hF hρ hcst hfun => ?_
      have e39 : ρ (.tmp 39) = .pointer (some ⟨g, 0, none⟩) := ((hρ 39).trans (slotJ [7] (by rw [hsz]; decide) (by kernel_rfl))).trans (hF 7 (by decide))
      clear hρ hF hcst hfun sl0 sl8 sl9 sl10 fin
      exact opv_val (by go_simp <;> rfl) ⟨gw_self _, rfl⟩
    · refine owes_v (Go.Op.load 33 (Go.Operand.tmp 40)) 33 [8] (by kernel_rfl) (by kernel_rfl) (by kernel_rfl) rfl fun vals w1 ρ hG hF hρ hcst hfun => ?_
      have e40 : ρ (.tmp 40) = .pointer (some ⟨g, 0, none⟩) := ((hρ 40).trans (slotJ [8] (by rw [hsz]; decide) (by kernel_rfl))).trans (hF 8 (by decide))
      have c0 := (hb.below hG hb.lt).cell 0
      clear hρ hF hcst hfun sl0 sl8 sl9 sl10 fin
      exact opv_val (by go_simp <;> rfl) ⟨gw_self _, rfl⟩
    · exact owes_mv 9 (by kernel_rfl) (by kernel_rfl) (by kernel_rfl) sl9 (fun _ => rfl)
    · refine owes_v (Go.Op.binOp Go.BinOp.quo 3 (Go.Operand.tmp 42) (Go.Operand.const (Go.Value.int Go.IntKind.i64 8)) 3) 3 [10] (by kernel_rfl) (by kernel_rfl) (by kernel_rfl) rfl fun vals w1 ρ hG hF hρ hcst hfun => ?_
      have e42 : ρ (.tmp 42) = .int .i64 k := ((hρ 42).trans (slotJ [10] (by rw [hsz]; decide) (by kernel_rfl))).trans (hF 10 (by decide))
      have kw0 : IntKind.i64.wrap ((j : Int)) = (j : Int) := wrapIn (by omega) (by omega)
      clear hρ hF hfun sl0 sl8 sl9 sl10 fin
      exact opv_val (by go_simp <;> rfl) ⟨gw_self _, rfl⟩
    · refine owes_v (Go.Op.indexAddr 33 (Go.Operand.tmp 41) (Go.Operand.tmp 43)) 0 [9, 11] (by kernel_rfl) (by kernel_rfl) (by kernel_rfl) rfl fun vals w1 ρ hG hF hρ hcst hfun => ?_
      have e41 : ρ (.tmp 41) = .slice (some ⟨q, 0, none⟩) N c := ((hρ 41).trans (slotJ [9, 11] (by rw [hsz]; decide) (by kernel_rfl))).trans (hF 9 (by decide))
      have e43 : ρ (.tmp 43) = .int .i64 j := ((hρ 43).trans (slotJ [9, 11] (by rw [hsz]; decide) (by kernel_rfl))).trans (hF 11 (by decide))
      clear hρ hF hcst hfun sl0 sl8 sl9 sl10 fin
      exact opv_val (by go_simp <;> rfl) ⟨gw_self _, rfl⟩
    · refine owes_v (Go.Op.load 57 (Go.Operand.tmp 44)) 57 [12] (by kernel_rfl) (by kernel_rfl) (by kernel_rfl) rfl fun vals w1 ρ hG hF hρ hcst hfun => ?_
      have e44 : ρ (.tmp 44) = .pointer (some ⟨q, j, none⟩) := ((hρ 44).trans (slotJ [12] (by rw [hsz]; decide) (by kernel_rfl))).trans (hF 12 (by decide))
      have c0 := (hG.cell (p := ⟨q, j, none⟩) hq).trans hy
      clear hρ hF hcst hfun sl0 sl8 sl9 sl10 fin
      exact opv_val (by go_simp <;> rfl) ⟨gw_self _, rfl⟩
    · exact owes_mv 10 (by kernel_rfl) (by kernel_rfl) (by kernel_rfl) sl10 (fun _ => rfl)
    · refine owes_v (Go.Op.binOp Go.BinOp.shl 57 (Go.Operand.const (Go.Value.int Go.IntKind.u64 255)) (Go.Operand.tmp 46) 3) 57 [14] (by kernel_rfl) (by kernel_rfl) (by kernel_rfl) rfl fun vals w1 ρ hG hF hρ hcst hfun => ?_
      have e46 : ρ (.tmp 46) = .int .i64 s := ((hρ 46).trans (slotJ [14] (by rw [hsz]; decide) (by kernel_rfl))).trans (hF 14 (by decide))
      clear hρ hF hfun sl0 sl8 sl9 sl10 fin
      exact opv_val (by go_simp <;> rfl) ⟨gw_self _, rfl⟩
    · refine owes_v (Go.Op.binOp Go.BinOp.andNot 57 (Go.Operand.tmp 45) (Go.Operand.tmp 47) 57) 57 [13, 15] (by kernel_rfl) (by kernel_rfl) (by kernel_rfl) rfl fun vals w1 ρ hG hF hρ hcst hfun => ?_
      have e45 : ρ (.tmp 45) = .int .u64 (U64 y) := ((hρ 45).trans (slotJ [13, 15] (by rw [hsz]; decide) (by kernel_rfl))).trans (hF 13 (by decide))
      have e47 : ρ (.tmp 47) = .int .u64 (U64 (255#64 <<< s)) := ((hρ 47).trans (slotJ [13, 15] (by rw [hsz]; decide) (by kernel_rfl))).trans (hF 15 (by decide))
      clear hρ hF hcst hfun sl0 sl8 sl9 sl10 fin
      exact opv_val (by go_simp <;> rfl) ⟨gw_self _, rfl⟩
    · exact owes_mv 8 (by kernel_rfl) (by kernel_rfl) (by kernel_rfl) sl8 (fun _ => rfl)
    · refine owes_v (Go.Op.convert 5 57 (Go.Operand.tmp 49)) 57 [17] (by kernel_rfl) (by kernel_rfl) (by kernel_rfl) rfl fun vals w1 ρ hG hF hρ hcst hfun => ?_
      have e49 : ρ (.tmp 49) = .int .u8 (U8 x) := ((hρ 49).trans (slotJ [17] (by rw [hsz]; decide) (by kernel_rfl))).trans (hF 17 (by decide))
      clear hρ hF hcst hfun sl0 sl8 sl9 sl10 fin
      exact opv_val (by go_simp <;> rfl) ⟨gw_self _, rfl⟩
    · exact owes_mv 10 (by kernel_rfl) (by kernel_rfl) (by kernel_rfl) sl10 (fun _ => rfl)
    · refine owes_v (Go.Op.binOp Go.BinOp.shl 57 (Go.Operand.tmp 50) (Go.Operand.tmp 51) 3) 57 [18, 19] (by kernel_rfl) (by kernel_rfl) (by kernel_rfl) rfl fun vals w1 ρ hG hF hρ hcst hfun => ?_
      have e50 : ρ (.tmp 50) = .int .u64 (U64 (x.setWidth 64)) := ((hρ 50).trans (slotJ [18, 19] (by rw [hsz]; decide) (by kernel_rfl))).trans (hF 18 (by decide))
      have e51 : ρ (.tmp 51) = .int .i64 s := ((hρ 51).trans (slotJ [18, 19] (by rw [hsz]; decide) (by kernel_rfl))).trans (hF 19 (by decide))
      clear hρ hF hcst hfun sl0 sl8 sl9 sl10 fin
      exact opv_val (by go_simp <;> rfl) ⟨gw_self _, rfl⟩
    · refine owes_v (Go.Op.binOp Go.BinOp.or 57 (Go.Operand.tmp 48) (Go.Operand.tmp 52) 57) 57 [16, 20] (by kernel_rfl) (by kernel_rfl) (by kernel_rfl) rfl fun vals w1 ρ hG hF hρ hcst hfun => ?_
      have e48 : ρ (.tmp 48) = .int .u64 (U64 (y &&& ~~~(255#64 <<< s))) := ((hρ 48).trans (slotJ [16, 20] (by rw [hsz]; decide) (by kernel_rfl))).trans (hF 16 (by decide))
      have e52 : ρ (.tmp 52) = .int .u64 (U64 (x.setWidth 64 <<< s)) := ((hρ 52).trans (slotJ [16, 20] (by rw [hsz]; decide) (by kernel_rfl))).trans (hF 20 (by decide))
      clear hρ hF hcst hfun sl0 sl8 sl9 sl10 fin
      exact opv_val (by go_simp <;> rfl) ⟨gw_self _, rfl⟩
    · refine owes_v (Go.Op.indexAddr 33 (Go.Operand.tmp 35) (Go.Operand.tmp 37)) 0 [3, 5] (by kernel_rfl) (by kernel_rfl) (by kernel_rfl) rfl fun vals w1 ρ hG hF hρ hcst hfun => ?_
      have e35 : ρ (.tmp 35) = .slice (some ⟨q, 0, none⟩) N c := ((hρ 35).trans (slotJ [3, 5] (by rw [hsz]; decide) (by kernel_rfl))).trans (hF 3 (by decide))
      have e37 : ρ (.tmp 37) = .int .i64 j := ((hρ 37).trans (slotJ [3, 5] (by rw [hsz]; decide) (by kernel_rfl))).trans (hF 5 (by decide))
      clear hρ hF hcst hfun sl0 sl8 sl9 sl10 fin
      exact opv_val (by go_simp <;> rfl) ⟨gw_self _, rfl⟩
  · intro vals w1 hG hF
    exact last_list (by kernel_rfl) (by kernel_rfl) (by kernel_rfl) (fin vals w1 hG (hF 21 (by decide +kernel)) (hF 22 (by decide +kernel)))
theorem setBytes_in (w : World) (B g : Nat) (v : Value) (ws : List (BitVec 64)) (a : Nat) (A : Option Addr) (cb : Nat) (bs : List (BitVec 8)) (hi : a + bs.length ≤ 8 * ws.length) (hl : ws.length ≤ 100000) (h : MemAt w B g v ws) (hr : Rd b8 w w.heap.size A bs) (hap : 0 < bs.length → ∀ x, A = some x → some x.block ≠ v.ownBlock) :
    Calls Try.prog 68 #[.pointer (some ⟨g, 0, none⟩), .int .i64 a, .slice A bs.length cb] w fun e w' => e = .returned (.int .i64 0) ∧ MemAt w' B g v (putK ws a bs bs.length) ∧ w.grownBy w' v.ownBlock := by
  have HL := Lib.hid (len_c w B g v ws h)
  have HI := Lib.hid (insideM_c w ((8 * ws.length : Nat) : Int) (a : Int) bs.length (by omega) (by omega) (by omega) (by omega) (by omega) (by omega))
  rw [show inM ((8 * ws.length : Nat) : Int) (a : Int) bs.length = true from by unfold inM; simp; omega] at HI
  obtain ⟨A1, c, e, hc⟩ := h.row.form
  subst e
  have HM := Lib.hid h
  have HR := Lib.hid hr
  have HAP := Lib.hid hap
  obtain ⟨N, hN⟩ : ∃ N, N = ws.length := ⟨_, rfl⟩
  obtain ⟨M, hM⟩ : ∃ M, M = 8 * ws.length := ⟨_, rfl⟩
  obtain ⟨n, hn⟩ : ∃ n, n = bs.length := ⟨_, rfl⟩
  rw [← hM] at HI
  rw [← hN] at HL HM HAP ⊢
  rw [← hn] at HI ⊢
  have q1 : (N : Int) * 8 = (M : Int) := by omega
  have HAN := Lib.hid hi
  have HNN := Lib.hid hN
  have HBN := Lib.hid hn
  have q2 : (M : Int) ≤ 800000 := by omega
  have q3 : (n : Int) ≤ 800000 := by omega
  clear h hc hM hN hi hl hr hap hn
  go_enter Try.func68, Try.ntmps68
  go_wp2_with fail
  refine Calls.mono HL.out ?_
  rintro e w1 ⟨rfl, rfl⟩
  go_wp2_with fail
  refine Calls.mono HI.out ?_
  rintro e w2 ⟨rfl, rfl⟩
  go_wp2_with fail
  go_loopw [21] (fun i wr => ∃ k : Nat, k ≤ n ∧ i = .int .i64 k ∧ MemAt wr B g (.slice A1 N c) (putK ws a bs k) ∧ w2.grownBy wr (Value.slice A1 N c).ownBlock) (fun i _ => n - (Go.RowKit.intOf i).toNat)
  case atStart => exact ⟨0, by omega, rfl, HM.out, grown_refl _ _⟩
  case round =>
    obtain ⟨k, hkl, rfl, hm, hg⟩ := hrel
    by_cases hlt : k < n
    · have p1 : (0 : Int) ≤ (k : Int) := by omega
      have p2 : (k : Int) < (n : Int) := by omega
      have hin := HAN.out
      have hNo := HNN.out
      have hBo := HBN.out
      obtain ⟨q, rfl⟩ : ∃ q, A1 = some ⟨q, 0, none⟩ := by
        rcases hm.row.2 with ⟨e, hn⟩ | ⟨q, _, _, e, _⟩
        · have hn' : (putK ws a bs k).length = 0 := hn
          rw [putK_len] at hn'
          omega
        · injection e with e
          exact ⟨q, e⟩
      obtain ⟨ad, rfl, hadb, hcl⟩ := (HR.out.grown hg (HAP.out (by omega))) k (by omega)
      obtain ⟨x, hx⟩ : ∃ x, x = bs[k]'(by omega) := ⟨_, rfl⟩
      rw [← hx] at hcl
      unfold b8 at hcl
      obtain ⟨s, hs⟩ : ∃ s, s = a + k := ⟨_, rfl⟩
      obtain ⟨j, hj⟩ : ∃ j, j = s / 8 := ⟨_, rfl⟩
      obtain ⟨b, hb⟩ : ∃ b, b = s % 8 := ⟨_, rfl⟩
      obtain ⟨t, ht⟩ : ∃ t, t = 8 * b := ⟨_, rfl⟩
      have hjl : j < ws.length := by omega
      have hjp : j < (putK ws a bs k).length := by rw [putK_len]; exact hjl
      have hbk := hm.blk
      have hq := hm.row.ge
      have hfz := hm.row.free j
      have hcell := hm.row.cell hjp
      obtain ⟨y, hy⟩ : ∃ y, y = (putK ws a bs k)[j] := ⟨_, rfl⟩
      rw [← hy] at hcell
      unfold u64v at hcell
      have hput : putK ws a bs (k + 1) = (putK ws a bs k).set j ((y &&& ~~~(255#64 <<< t)) ||| (x.setWidth 64 <<< t)) := by
        show setB (putK ws a bs k) (a + k) (bs.getD k 0#8) = _
        unfold setB
        rw [← hs, ← hj, ← hb, ← ht, hy, hx, List.getD_eq_getElem?_getD, List.getElem?_eq_getElem hjp, List.getD_eq_getElem?_getD, List.getElem?_eq_getElem (by omega)]
        rfl
      have hrow := hm.row.set hjp ((y &&& ~~~(255#64 <<< t)) ||| (x.setWidth 64 <<< t))
      rw [← hput] at hrow
      have hne : q ≠ g := fun e => hm.ne (by rw [e]; rfl)
      have HS := Lib.hid (fun (W : World) (hW : Below wr.heap.size wr W) (u : Value) (hu : u = u64v ((y &&& ~~~(255#64 <<< t)) ||| (x.setWidth 64 <<< t))) => show MemAt (W.setCell ⟨q, j, none⟩ u) B g (.slice (some ⟨q, 0, none⟩) N c) (putK ws a bs (k + 1)) ∧ w2.grownBy (W.setCell ⟨q, j, none⟩ u) (some q) from by
        subst hu
        have r2 := (hm.row.below hW).set hjp ((y &&& ~~~(255#64 <<< t)) ||| (x.setWidth 64 <<< t))
        rw [← hput] at r2
        exact ⟨⟨(hm.blk.below hW hm.blk.lt).far (p := ⟨q, j, none⟩) hne.symm _, hm.ge, r2, hm.ne⟩, (hg.trans (grown_none hW _)).trans (grown_set W ⟨q, j, none⟩ _)⟩)
      have HFZ := Lib.hid (fun (W : World) (hW : Below wr.heap.size wr W) => (hm.row.below hW).free j)
      have HCL := Lib.hid (fun (W : World) (hW : Below wr.heap.size wr W) => show W.cell? ⟨q, j, none⟩ = some (.int .u64 (U64 y)) from by have h0 := (hm.row.below hW).cell hjp; rw [← hy] at h0; exact h0)
      have d0 : (a : Int) + (k : Int) = (s : Int) := by omega
      have d2 : (s : Int) % 8 = (b : Int) := by omega
      have d3 : (s : Int).tdiv 8 = (j : Int) := by rw [Int.tdiv_eq_ediv_of_nonneg (by omega)]; omega
      have d4 : (s : Int).tmod 8 = (b : Int) := by rw [← d2]; exact Int.tmod_eq_emod_of_nonneg (by omega)
      have d5 : (0 : Int) ≤ (s : Int) := by omega
      have d6 : (s : Int) ≤ 800000 := by omega
      have d7 : (b : Int) < 8 := by omega
      have d8 : (0 : Int) ≤ (b : Int) := by omega
      have d9 : (8 : Int) * (b : Int) = (t : Int) := by omega
      have HX := Lib.hid (And.intro (show (0 : Int) ≤ (j : Int) by omega) (And.intro (show (j : Int) < (N : Int) by omega) (And.intro (show (t : Int) < 64 by omega) (show (j : Int) ≤ 1000000 by omega))))
      have HC := Lib.hid hcell
      have HQ := Lib.hid hq.2
      have HK := Lib.hid hbk
      clear hj hb hs hin hNo hBo hadb hx hy ht hjl hjp hbk hq hfz hcell hput hrow hne hm
      go_wp2_with fail
      refine sb_reg _ _ _ g q N c s j t x y HK.out HQ.out HC.out d3 HX.out.1 HX.out.2.1 (by omega) HX.out.2.2.1 HX.out.2.2.2 rfl rfl rfl rfl rfl ?_
      intro vals w3 hG h53 h54
      unfold IsV at h53 h54
      simp only [putD, Act.put, List.setIfInBounds_toArray, List.set_cons_zero, List.set_cons_succ, h53, h54]
      have hS := HS.out w3 hG _ rfl
      have hf := HFZ.out w3 hG
      have hc := HCL.out w3 hG
      have HS3 := Lib.hid hS
      clear hS h53 h54 HK HQ HC HX HS HFZ HCL
      go_wp2_with fail
      go_roundw
      case rel => exact ⟨k + 1, by omega, by go_num, HS3.out.1, HS3.out.2⟩
      case measure => (first | (simp [Go.RowKit.intOf]; done) | (simp [Go.RowKit.intOf]; omega))
    · have hkk : k = n := by omega
      subst hkk
      have HF := Lib.hid (And.intro hm hg)
      clear hm hg
      go_wp2_with fail
      go_ret
      exact ⟨rfl, HF.out.1, HF.out.2⟩
end Go.Proofs.Ytkkjnahjmomjgaa
/- obj.SetPtr, Read, Write. Conditions: lengths. -/
namespace Go.Proofs.Ytkkjnahjmomjgaa
set_option linter.unusedVariables false
set_option linter.unusedSimpArgs false
open Go.RowKit
/-- Nothing of the old world but the row of words has changed. -/
def SetP (w : World) (B s g : Nat) (v : Value) (ws : List (BitVec 64)) (b t e : Nat) (r : Ending) (w' : World) : Prop := r = .returned (.int .i64 0) ∧ SpAt w' B s g v ws b t e ∧ Two w w' s v.ownBlock ∧ Below B w w'
set_option maxHeartbeats 1000000
set_option maxRecDepth 100000
theorem setptr_nil (w : World) (B s g : Nat) (v : Value) (ws : List (BitVec 64)) (b t e : Nat) (p : SpAt w B s g v ws b t e) (hl : ws.length ≤ 100000) (a k : Nat) (h1 : b ≤ a) (h2 : a < t) (hg : goodX (ws.getD a 0#64) (t - a) = true) (hk : k < P0 (ws.getD a 0#64)) :
    Calls Try.prog 61 #[.pointer (some ⟨s, 0, none⟩), .int .i64 a, .int .i64 k, .int .i64 (-1)] w (SetP w B s g v (ws.set (a + 1 + k) 0#64) b t e) := by
  have HL := Lib.hid (ptr_ok w B s g v ws b t e p hl a k h1 h2 hg hk)
  obtain ⟨hj, _⟩ := word_in (b := b) hg h2 p.te p.el hk
  obtain ⟨J, hJ⟩ : ∃ J, J = a + 1 + k := ⟨_, rfl⟩
  rw [← hJ] at HL hj ⊢
  have HS := Lib.hid (fun W (hb : Below w.heap.size w W) => set_in W B g v ws J 0#64 hj hl (p.below hb).mem)
  rw [show U64 (0#64) = 0 from by decide +kernel] at HS
  have HP := Lib.hid p
  have hBw := p.mem.le
  clear hJ p hl h1 h2 hg hk hj
  go_enter Try.func61, Try.ntmps61
  go_wp2_with fail
  refine Calls.mono HL.out ?_
  rintro r w2 ⟨rfl, b2⟩
  have HB := Lib.hid b2
  have c0 := (HP.out.below b2).four.1
  clear b2 HL
  go_wp2_with fail
  refine Calls.mono (HS.out w2 HB.out) ?_
  rintro r w3 ⟨rfl, hm, hg3⟩
  have HF := Lib.hid (And.intro hm hg3)
  clear hm hg3 c0
  go_wp2_with fail
  go_ret
  exact ⟨rfl, (HP.out.below HB.out).memTo HF.out.1 HF.out.2 (by rw [List.length_set]), (Two.below HB.out).trans (Two.grown HF.out.2), (HB.out.mono hBw).trans ((HP.out.below HB.out).mem.own HF.out.2)⟩
theorem setptr_to (w : World) (B s g : Nat) (v : Value) (ws : List (BitVec 64)) (b t e : Nat) (p : SpAt w B s g v ws b t e) (hl : ws.length ≤ 100000) (a k m : Nat) (h1 : b ≤ a) (h2 : a < t) (hg : goodX (ws.getD a 0#64) (t - a) = true) (hk : k < P0 (ws.getD a 0#64)) (hm1 : b ≤ m) (hm2 : m < t) :
    Calls Try.prog 61 #[.pointer (some ⟨s, 0, none⟩), .int .i64 a, .int .i64 k, .int .i64 m] w (SetP w B s g v (ws.set (a + 1 + k) (BitVec.ofNat 64 (m + 1))) b t e) := by
  have HL := Lib.hid (ptr_ok w B s g v ws b t e p hl a k h1 h2 hg hk)
  obtain ⟨hj, _⟩ := word_in (b := b) hg h2 p.te p.el hk
  obtain ⟨J, hJ⟩ : ∃ J, J = a + 1 + k := ⟨_, rfl⟩
  rw [← hJ] at HL hj ⊢
  have hm3 : m < 100000 := by have := p.te; have := p.el; omega
  have HS := Lib.hid (fun W (hb : Below w.heap.size w W) => set_in W B g v ws J (BitVec.ofNat 64 (m + 1)) hj hl (p.below hb).mem)
  rw [ofNat_U64 (m + 1) (by omega), show ((m + 1 : Nat) : Int) = (m : Int) + 1 by omega] at HS
  have HI := Lib.hid (fun W (hb : Below w.heap.size w W) => inside_c W B s g v ws b t e (p.below hb) (m : Int))
  rw [show insB b t (m : Int) = true by unfold insB; simp; omega] at HI
  have HP := Lib.hid p
  have hBw := p.mem.le
  have q1 : ((m : Int) == -1) = false := by simp
  have q2 : ((m : Int) != -1) = true := by simp
  have q3 : (m : Int) ≤ 100000 := by omega
  have q4 : (0 : Int) ≤ (m : Int) := by omega
  clear hJ p hl h1 h2 hg hk hj hm1 hm2 hm3
  go_enter Try.func61, Try.ntmps61
  go_wp2_with fail
  refine Calls.mono HL.out ?_
  rintro r w2 ⟨rfl, b2⟩
  have HB := Lib.hid b2
  clear b2 HL
  go_wp2_with fail
  refine Calls.mono (HI.out w2 HB.out) ?_
  rintro r w3 ⟨rfl, b3⟩
  have HB3 := Lib.hid (HB.out.trans (b3.mono HB.out.size))
  have c0 := (HP.out.below HB3.out).four.1
  clear b3
  go_wp2_with fail
  refine Calls.mono (HS.out w3 HB3.out) ?_
  rintro r w4 ⟨rfl, hm, hg4⟩
  have HF := Lib.hid (And.intro hm hg4)
  clear hm hg4 c0
  go_wp2_with fail
  go_ret
  exact ⟨rfl, (HP.out.below HB3.out).memTo HF.out.1 HF.out.2 (by rw [List.length_set]), (Two.below HB3.out).trans (Two.grown HF.out.2), (HB3.out.mono hBw).trans ((HP.out.below HB3.out).mem.own HF.out.2)⟩
theorem bytes_room {ws : List (BitVec 64)} {t e a i n : Nat} {x : BitVec 64} (hx : goodX x (t - a) = true) (h2 : a < t) (hte : t ≤ e) (hel : e ≤ ws.length) (hi : i + n ≤ B0 x) : 8 * (a + 1 + P0 x) + i + n ≤ 8 * t ∧ 8 * (a + 1 + P0 x) + i + n ≤ 8 * ws.length := by
  obtain ⟨_, _, _, h, _, h3⟩ := head_of hx
  omega
theorem read_ok (w : World) (B s g : Nat) (v : Value) (ws : List (BitVec 64)) (b t e : Nat) (p : SpAt w B s g v ws b t e) (hl : ws.length ≤ 100000) (a i n : Nat) (h1 : b ≤ a) (h2 : a < t) (hg : goodX (ws.getD a 0#64) (t - a) = true) (hi : i + n ≤ B0 (ws.getD a 0#64)) :
    Calls Try.prog 111 #[.pointer (some ⟨s, 0, none⟩), .int .i64 a, .int .i64 i, .int .i64 n] w (MkEP b8 5 (bytesM ws (8 * (a + 1 + P0 (ws.getD a 0#64)) + i) n) 0 w) := by
  have HL := Lib.hid (data_ok w B s g v ws b t e p hl a i n h1 h2 hg hi)
  obtain ⟨_, hr⟩ := bytes_room hg h2 p.te p.el hi
  obtain ⟨J, hJ⟩ : ∃ J, J = 8 * (a + 1 + P0 (ws.getD a 0#64)) + i := ⟨_, rfl⟩
  rw [← hJ] at HL hr ⊢
  have HR := Lib.hid (fun W (hb : Below w.heap.size w W) => bytes_in W B g v ws J n hr hl (p.below hb).mem)
  have HC := Lib.hid (fun W (hb : Below w.heap.size w W) => (p.below hb).four.1)
  clear hJ p hl h1 h2 hg hi hr
  go_enter Try.func111, Try.ntmps111
  go_wp2_with fail
  refine Calls.mono HL.out ?_
  rintro r w2 ⟨rfl, b2⟩
  have HB := Lib.hid b2
  have c0 := HC.out w2 b2
  clear b2 HL
  go_wp2_with fail
  refine Calls.mono (HR.out w2 HB.out) ?_
  rintro r w3 ⟨A, c, rfl, hc, ho, b3⟩
  have HO := Lib.hid (And.intro hc (And.intro ho b3))
  obtain ⟨F, hF⟩ : ∃ F, F = (bytesM ws J n).length := ⟨_, rfl⟩
  have HFl := Lib.hid hF
  rw [← hF]
  clear hc ho b3 c0 hF
  go_wp2_with fail
  go_ret2
  rw [HFl.out]
  exact MkEP.of (HO.out.2.1.mono HB.out.size) (HB.out.trans (HO.out.2.2.mono HB.out.size))
theorem write_ok (w : World) (B s g : Nat) (v : Value) (ws : List (BitVec 64)) (b t e : Nat) (p : SpAt w B s g v ws b t e) (hl : ws.length ≤ 100000) (a i : Nat) (A : Option Addr) (c : Nat) (bs : List (BitVec 8)) (h1 : b ≤ a) (h2 : a < t) (hg : goodX (ws.getD a 0#64) (t - a) = true) (hi : i + bs.length ≤ B0 (ws.getD a 0#64)) (hr : Rd b8 w w.heap.size A bs) (hap : 0 < bs.length → ∀ x, A = some x → some x.block ≠ v.ownBlock) :
    Calls Try.prog 62 #[.pointer (some ⟨s, 0, none⟩), .int .i64 a, .int .i64 i, .slice A bs.length c] w (SetP w B s g v (putK ws (8 * (a + 1 + P0 (ws.getD a 0#64)) + i) bs bs.length) b t e) := by
  have HL := Lib.hid (data_ok w B s g v ws b t e p hl a i bs.length h1 h2 hg hi)
  obtain ⟨_, hro⟩ := bytes_room hg h2 p.te p.el hi
  obtain ⟨J, hJ⟩ : ∃ J, J = 8 * (a + 1 + P0 (ws.getD a 0#64)) + i := ⟨_, rfl⟩
  rw [← hJ] at HL hro ⊢
  have HS := Lib.hid (fun W (hb : Below w.heap.size w W) => setBytes_in W B g v ws J A c bs hro hl (p.below hb).mem ((hr.below hb).more hb.size) hap)
  obtain ⟨n, hn⟩ : ∃ n, n = bs.length := ⟨_, rfl⟩
  rw [← hn] at HL HS ⊢
  have HP := Lib.hid p
  have hBw := p.mem.le
  have HLn := Lib.hid hl
  clear hJ p hl h1 h2 hg hi hro hr hap hn
  go_enter Try.func62, Try.ntmps62
  go_wp2_with fail
  refine Calls.mono HL.out ?_
  rintro r w2 ⟨rfl, b2⟩
  have HB := Lib.hid b2
  have c0 := (HP.out.below b2).four.1
  clear b2 HL
  go_wp2_with fail
  refine Calls.mono (HS.out w2 HB.out) ?_
  rintro r w3 ⟨rfl, hm, hg3⟩
  have HF := Lib.hid (And.intro hm hg3)
  clear hm hg3 c0
  go_wp2_with fail
  go_ret
  exact ⟨rfl, (HP.out.below HB.out).memTo HF.out.1 HF.out.2 (putK_len _ _ _ _), (Two.below HB.out).trans (Two.grown HF.out.2), (HB.out.mono hBw).trans ((HP.out.below HB.out).mem.own HF.out.2)⟩
end Go.Proofs.Ytkkjnahjmomjgaa
/- obj.padded. Conditions: lengths. -/
namespace Go.Proofs.Ytkkjnahjmomjgaa
set_option linter.unusedVariables false
set_option linter.unusedSimpArgs false
open Go.RowKit
def BtT (xs : List (BitVec 8)) (v : Value) (w : World) : Prop := ∃ A c, v = .tuple #[.slice A xs.length c, .int .i64 0] ∧ Rd b8 w w.heap.size A xs
theorem BtT.mono {xs : List (BitVec 8)} {v : Value} {a b : World} (h : BtT xs v a) (g : Below a.heap.size a b) : BtT xs v b := by
  obtain ⟨A, c, e, h⟩ := h
  exact ⟨A, c, e, (h.below g).more g.size⟩
def BtS (xs : List (BitVec 8)) (v : Value) (w : World) : Prop := ∃ A c, v = .slice A xs.length c ∧ Rd b8 w w.heap.size A xs
theorem BtS.mono {xs : List (BitVec 8)} {v : Value} {a b : World} (h : BtS xs v a) (g : Below a.heap.size a b) : BtS xs v b := by
  obtain ⟨A, c, e, h⟩ := h
  exact ⟨A, c, e, (h.below g).more g.size⟩
theorem bytes_k {W : World} {B g : Nat} {v : Value} {ws : List (BitVec 64)} {a n : Nat} {xs : List (BitVec 8)} (hx : bytesM ws a n = xs) (hi : a + n ≤ 8 * ws.length) (hl : ws.length ≤ 100000) (h : MemAt W B g v ws) :
    Calls Try.prog 100 #[.pointer (some ⟨g, 0, none⟩), .int .i64 a, .int .i64 n] W fun e w2 => ∃ u, e = .returned u ∧ Below W.heap.size W w2 ∧ BtT xs u w2 := by
  subst hx
  refine (bytes_in W B g v ws a n hi hl h).mono ?_
  rintro e w2 ⟨A, c, rfl, _, ho, b2⟩
  exact ⟨_, rfl, b2, A, c, rfl, ho.rd⟩
/-- Whether all is 0 behind an object's bytes. -/
def padB (ws : List (BitVec 64)) (J K : Nat) : Bool := (bytesM ws J K).all (· == 0#8)
set_option maxHeartbeats 1000000
set_option maxRecDepth 100000
theorem pad_r (Q : Exit → Act → World → Prop) (a0 : Act) (w : World) (s g H B a Z J K b t e : Nat) (P N : Int) (v : Value) (ws : List (BitVec 64)) (xs : List (BitVec 8)) (hk : Bk w H 112 #[.int .i64 P, .int .i64 N, .bool false, .int .i64 0]) (sp : Hid (SpAt w B s g v ws b t e)) (hz : Hid (sizeH P N false 0 = (Z : Int))) (hx : Hid (bytesM ws J K = xs)) (hr : Hid (J + K ≤ 8 * ws.length)) (hl : Hid (ws.length ≤ 100000)) (q1 : (a : Int) ≤ 100000) (q2 : (Z : Int) ≤ 1000) (q3 : (0 : Int) ≤ (a : Int)) (q4 : (0 : Int) ≤ (Z : Int)) (q5 : ((a : Int) + (Z : Int)) * 8 - (J : Int) = (K : Int)) (q6 : (K : Int) ≤ 1000) (q7 : (0 : Int) ≤ (J : Int)) (q8 : (J : Int) ≤ 1000000) (q9 : (0 : Int) ≤ (K : Int)) (hsz : a0.tmps.size = 48) (sl0 : a0.tmps.getD 0 undef = .pointer (some ⟨s, 0, none⟩)) (sl1 : a0.tmps.getD 1 undef = .int .i64 a) (sl5 : a0.tmps.getD 5 undef = .pointer (some ⟨H, 0, none⟩)) (sl7 : a0.tmps.getD 7 undef = .int .i64 J)
    (fin : ∀ (vals : Nat → Value) (w1 : World), Below w.heap.size w w1 → (BtS xs) (vals 16) w1 → (IsV (.int .i64 0)) (vals 17) w1 → Q .normal (putD vals [22, 23, 24, 25, 26, 27, 28, 29, 30, 31, 32, 33, 34, 21, 35, 36, 8, 9] 0 a0) w1) :
    (Code.region 2 (regIn Try.f110 2) true).wp Try.prog Q a0 w := by
  refine region_by (G := fun w w1 => Below w.heap.size w w1) [IsV (.pointer (some ⟨s, 0, none⟩)),
    IsV (.pointer (some ⟨s, 0, none⟩)),
    IsV (.pointer (some ⟨s, 0, none⟩)),
    IsV (.pointer (some ⟨g, 0, none⟩)),
    IsV (.int .i64 J),
    IsV (.int .i64 a),
    IsV (.agg #[.int .i64 P, .int .i64 N, .bool false, .int .i64 0]),
    IsV (.int .i64 Z),
    IsV (.int .i64 ((a : Int) + (Z : Int))),
    IsV (.int .i64 (((a : Int) + (Z : Int)) * 8)),
    IsV (.int .i64 J),
    IsV (.int .i64 K),
    BtT xs,
    BtT xs,
    BtS xs,
    IsV (.int .i64 0),
    BtS xs,
    IsV (.int .i64 0)]
    [22, 23, 24, 25, 26, 27, 28, 29, 30, 31, 32, 33, 34, 21, 35, 36, 8, 9] (by kernel_rfl) (Gw.drew _) Gw.trans (by rw [hsz]; kernel_rfl) (by kernel_rfl) ?_ ?_ ?_
  · intro f hf
    simp only [List.mem_cons, List.not_mem_nil, or_false] at hf
    rcases hf with rfl | rfl | rfl | rfl | rfl | rfl | rfl | rfl | rfl | rfl | rfl | rfl | rfl | rfl | rfl | rfl | rfl | rfl <;> intro v a b h g <;> first | exact IsV.mono h | exact BtT.mono h g | exact BtS.mono h g
  · refine ⟨?_, ?_, ?_, ?_, ?_, ?_, ?_, ?_, ?_, ?_, ?_, ?_, ?_, ?_, ?_, ?_, ?_, ?_, trivial⟩
    · exact owes_mv 0 (by kernel_rfl) (by kernel_rfl) (by kernel_rfl) sl0 (fun _ => rfl)
    · refine owes_v (Go.Op.nilCheck (Go.Operand.tmp 22)) 0 [0] (by kernel_rfl) (by kernel_rfl) (by kernel_rfl) rfl fun vals w1 ρ hG hF hρ hcst hfun => ?_
      have e22 : ρ (.tmp 22) = .pointer (some ⟨s, 0, none⟩) := ((hρ 22).trans (slotJ [0] (by rw [hsz]; decide) (by kernel_rfl))).trans (hF 0 (by decide))
      clear hρ hF hcst hfun sl0 sl1 sl5 sl7 fin
      exact opv_val (by go_simp <;> rfl) ⟨gw_self _, rfl⟩
    · refine owes_v (Go.Op.fieldAddr 147 (Go.Operand.tmp 23) 0) 0 [1] (by kernel_rfl) (by kernel_rfl) (by kernel_rfl) rfl fun vals w1 ρ hG hF hρ hcst hfun => ?_
      have e23 : ρ (.tmp 23) = .pointer (some ⟨s, 0, none⟩) := ((hρ 23).trans (slotJ [1] (by rw [hsz]; decide) (by kernel_rfl))).trans (hF 1 (by decide))
      clear hρ hF hcst hfun sl0 sl1 sl5 sl7 fin
      exact opv_val (by go_simp <;> rfl) ⟨gw_self _, rfl⟩
    · refine owes_v (Go.Op.load 61 (Go.Operand.tmp 24)) 61 [2] (by kernel_rfl) (by kernel_rfl) (by kernel_rfl) rfl fun vals w1 ρ hG hF hρ hcst hfun => ?_
      have e24 : ρ (.tmp 24) = .pointer (some ⟨s, 0, none⟩) := ((hρ 24).trans (slotJ [2] (by rw [hsz]; decide) (by kernel_rfl))).trans (hF 2 (by decide))
      have k := (sp.out.below hG).four.1
      clear hρ hF hcst hfun sl0 sl1 sl5 sl7 fin
      exact opv_val (by go_simp <;> rfl) ⟨gw_self _, rfl⟩
    · exact owes_mv 7 (by kernel_rfl) (by kernel_rfl) (by kernel_rfl) sl7 (fun _ => rfl)
    · exact owes_mv 1 (by kernel_rfl) (by kernel_rfl) (by kernel_rfl) sl1 (fun _ => rfl)
    · refine owes_v (Go.Op.load 112 (Go.Operand.tmp 5)) 112 [] (by kernel_rfl) (by kernel_rfl) (by kernel_rfl) rfl fun vals w1 ρ hG hF hρ hcst hfun => ?_
      have e5 : ρ (.tmp 5) = .pointer (some ⟨H, 0, none⟩) := ((hρ 5).trans (slotO [] (by kernel_rfl))).trans sl5
      obtain ⟨k1, k2, k3, k4⟩ := (hk.below hG hk.lt).four
      clear hρ hF hcst hfun sl0 sl1 sl5 sl7 fin
      exact opv_val (by go_simp <;> rfl) ⟨gw_self _, rfl⟩
    · refine owes_v (Go.Op.call { callee := Go.Callee.value (Go.Operand.func 72), args := #[Go.Operand.tmp 28], argTypes := #[112] }) 3 [6] (by kernel_rfl) (by kernel_rfl) (by kernel_rfl) rfl fun vals w1 ρ hG hF hρ hcst hfun => ?_
      have e28 : ρ (.tmp 28) = .agg #[.int .i64 P, .int .i64 N, .bool false, .int .i64 0] := ((hρ 28).trans (slotJ [6] (by rw [hsz]; decide) (by kernel_rfl))).trans (hF 6 (by decide))
      have kz := size_c P N false 0 w1
      rw [hz.out] at kz
      clear hρ hF hcst sl0 sl1 sl5 sl7 fin
      exact opv_enter (by go_simp <;> rfl) (of_rp kz)
    · refine owes_v (Go.Op.binOp Go.BinOp.add 3 (Go.Operand.tmp 27) (Go.Operand.tmp 29) 3) 3 [5, 7] (by kernel_rfl) (by kernel_rfl) (by kernel_rfl) rfl fun vals w1 ρ hG hF hρ hcst hfun => ?_
      have e27 : ρ (.tmp 27) = .int .i64 a := ((hρ 27).trans (slotJ [5, 7] (by rw [hsz]; decide) (by kernel_rfl))).trans (hF 5 (by decide))
      have e29 : ρ (.tmp 29) = .int .i64 Z := ((hρ 29).trans (slotJ [5, 7] (by rw [hsz]; decide) (by kernel_rfl))).trans (hF 7 (by decide))
      have kw0 : IntKind.i64.wrap (((a : Int) + (Z : Int))) = ((a : Int) + (Z : Int)) := wrapIn (by omega) (by omega)
      clear hρ hF hcst hfun sl0 sl1 sl5 sl7 fin
      exact opv_val (by go_simp <;> rfl) ⟨gw_self _, rfl⟩
    · refine owes_v (Go.Op.binOp Go.BinOp.mul 3 (Go.Operand.tmp 30) (Go.Operand.const (Go.Value.int Go.IntKind.i64 8)) 3) 3 [8] (by kernel_rfl) (by kernel_rfl) (by kernel_rfl) rfl fun vals w1 ρ hG hF hρ hcst hfun => ?_
      have e30 : ρ (.tmp 30) = .int .i64 ((a : Int) + (Z : Int)) := ((hρ 30).trans (slotJ [8] (by rw [hsz]; decide) (by kernel_rfl))).trans (hF 8 (by decide))
      have kw0 : IntKind.i64.wrap ((((a : Int) + (Z : Int)) * 8)) = (((a : Int) + (Z : Int)) * 8) := wrapIn (by omega) (by omega)
      clear hρ hF hfun sl0 sl1 sl5 sl7 fin
      exact opv_val (by go_simp <;> rfl) ⟨gw_self _, rfl⟩
    · exact owes_mv 7 (by kernel_rfl) (by kernel_rfl) (by kernel_rfl) sl7 (fun _ => rfl)
    · refine owes_v (Go.Op.binOp Go.BinOp.sub 3 (Go.Operand.tmp 31) (Go.Operand.tmp 32) 3) 3 [9, 10] (by kernel_rfl) (by kernel_rfl) (by kernel_rfl) rfl fun vals w1 ρ hG hF hρ hcst hfun => ?_
      have e31 : ρ (.tmp 31) = .int .i64 (((a : Int) + (Z : Int)) * 8) := ((hρ 31).trans (slotJ [9, 10] (by rw [hsz]; decide) (by kernel_rfl))).trans (hF 9 (by decide))
      have e32 : ρ (.tmp 32) = .int .i64 J := ((hρ 32).trans (slotJ [9, 10] (by rw [hsz]; decide) (by kernel_rfl))).trans (hF 10 (by decide))
      have kw0 : IntKind.i64.wrap ((K : Int)) = (K : Int) := wrapIn (by omega) (by omega)
      clear hρ hF hcst hfun sl0 sl1 sl5 sl7 fin
      exact opv_val (by go_simp <;> rfl) ⟨gw_self _, rfl⟩
    · refine owes_v (Go.Op.call { callee := Go.Callee.value (Go.Operand.func 100), args := #[Go.Operand.tmp 25, Go.Operand.tmp 26, Go.Operand.tmp 33], argTypes := #[61, 3, 3] }) 160 [3, 4, 11] (by kernel_rfl) (by kernel_rfl) (by kernel_rfl) rfl fun vals w1 ρ hG hF hρ hcst hfun => ?_
      have e25 : ρ (.tmp 25) = .pointer (some ⟨g, 0, none⟩) := ((hρ 25).trans (slotJ [3, 4, 11] (by rw [hsz]; decide) (by kernel_rfl))).trans (hF 3 (by decide))
      have e26 : ρ (.tmp 26) = .int .i64 J := ((hρ 26).trans (slotJ [3, 4, 11] (by rw [hsz]; decide) (by kernel_rfl))).trans (hF 4 (by decide))
      have e33 : ρ (.tmp 33) = .int .i64 K := ((hρ 33).trans (slotJ [3, 4, 11] (by rw [hsz]; decide) (by kernel_rfl))).trans (hF 11 (by decide))
      clear hρ hF hcst sl0 sl1 sl5 sl7 fin
      exact opv_enter (by go_simp <;> rfl) (bytes_k hx.out hr.out hl.out (sp.out.below hG).mem)
    · exact owes_mvj 12 34 (by kernel_rfl) (by kernel_rfl) (by kernel_rfl) (by kernel_rfl) (by rw [hsz]; decide) (fun v w h => h)
    · refine owes_v (Go.Op.extract (Go.Operand.tmp 21) 0) 52 [13] (by kernel_rfl) (by kernel_rfl) (by kernel_rfl) rfl fun vals w1 ρ hG hF hρ hcst hfun => ?_
      have f21 : (BtT xs) (vals 13) w1 := hF 13 (by decide)
      have e21 : ρ (.tmp 21) = vals 13 := (hρ 21).trans (slotJ [13] (by rw [hsz]; decide) (by kernel_rfl))
      obtain ⟨A, c, hx0, hrd⟩ := f21
      rw [hx0] at e21
      clear hρ hF hcst hfun sl0 sl1 sl5 sl7 fin
      exact opv_val (by go_simp <;> rfl) ⟨gw_self _, ⟨A, c, rfl, hrd⟩⟩
    · refine owes_v (Go.Op.extract (Go.Operand.tmp 21) 1) 34 [13] (by kernel_rfl) (by kernel_rfl) (by kernel_rfl) rfl fun vals w1 ρ hG hF hρ hcst hfun => ?_
      have f21 : (BtT xs) (vals 13) w1 := hF 13 (by decide)
      have e21 : ρ (.tmp 21) = vals 13 := (hρ 21).trans (slotJ [13] (by rw [hsz]; decide) (by kernel_rfl))
      obtain ⟨A, c, hx0, hrd⟩ := f21
      rw [hx0] at e21
      clear hρ hF hcst hfun sl0 sl1 sl5 sl7 fin
      exact opv_val (by go_simp <;> rfl) ⟨gw_self _, rfl⟩
    · exact owes_mvj 14 35 (by kernel_rfl) (by kernel_rfl) (by kernel_rfl) (by kernel_rfl) (by rw [hsz]; decide) (fun v w h => h)
    · exact owes_mvj 15 36 (by kernel_rfl) (by kernel_rfl) (by kernel_rfl) (by kernel_rfl) (by rw [hsz]; decide) (fun v w h => h)
  · intro vals w1 hG hF
    exact fin vals w1 hG (hF 16 (by decide +kernel)) (hF 17 (by decide +kernel))
theorem padded_c (w : World) (B s g : Nat) (v : Value) (ws : List (BitVec 64)) (b t e : Nat) (p : SpAt w B s g v ws b t e) (hl : ws.length ≤ 100000) (a : Nat) (h2 : a < t) (hg : goodX (ws.getD a 0#64) (t - a) = true) :
    Calls Try.prog 110 #[.pointer (some ⟨s, 0, none⟩), .int .i64 a, .agg #[.int .i64 (P0 (ws.getD a 0#64) : Int), .int .i64 (B0 (ws.getD a 0#64) : Int), .bool false, .int .i64 0]] w (RetP (.bool (padB ws (8 * (a + 1 + P0 (ws.getD a 0#64)) + B0 (ws.getD a 0#64)) (8 * (a + szX (ws.getD a 0#64)) - (8 * (a + 1 + P0 (ws.getD a 0#64)) + B0 (ws.getD a 0#64))))) w) := by
  obtain ⟨_, hP, hN, hsz, hsh, hroom⟩ := head_of hg
  obtain ⟨P, hP'⟩ : ∃ P, P = P0 (ws.getD a 0#64) := ⟨_, rfl⟩
  obtain ⟨N, hN'⟩ : ∃ P, P = B0 (ws.getD a 0#64) := ⟨_, rfl⟩
  obtain ⟨Z, hZ'⟩ : ∃ P, P = szX (ws.getD a 0#64) := ⟨_, rfl⟩
  rw [← hP'] at hP
  rw [← hN'] at hN
  rw [← hP', ← hN', ← hZ'] at hsz hsh
  rw [← hZ'] at hroom
  rw [← hP', ← hN', ← hZ']
  have htw : t ≤ ws.length := Nat.le_trans p.te p.el
  obtain ⟨J, hJ⟩ : ∃ J, J = 8 * (a + 1 + P) + N := ⟨_, rfl⟩
  obtain ⟨K, hK⟩ : ∃ K, K = 8 * (a + Z) - J := ⟨_, rfl⟩
  rw [← hJ, ← hK]
  unfold padB
  obtain ⟨xs, hxs⟩ : ∃ xs, bytesM ws J K = xs := ⟨_, rfl⟩
  rw [hxs]
  have hxl : xs.length = K := by rw [← hxs]; simp [bytesM]
  obtain ⟨R, hR⟩ : ∃ R, R = xs.all (· == 0#8) := ⟨_, rfl⟩
  rw [← hR]
  have HRR := Lib.hid hR
  clear hR
  have q0 : ((a : Int) + 1 + (P : Int)) * 8 + (N : Int) = (J : Int) := by omega
  have HQ := Lib.hid (show (a : Int) ≤ 100000 ∧ (Z : Int) ≤ 1000 ∧ ((a : Int) + (Z : Int)) * 8 - (J : Int) = (K : Int) ∧ (K : Int) ≤ 1000 ∧ (J : Int) ≤ 1000000 ∧ J + K ≤ 8 * ws.length from by omega)
  have HX := Lib.hid hxs
  have HS := Lib.hid hsh
  have HL := Lib.hid hl
  have HXl := Lib.hid hxl
  have HP := Lib.hid p
  have q1 : (a : Int) ≤ 100000 := by omega
  have q2 : (P : Int) ≤ 64 := by omega
  have q3 : (N : Int) ≤ 1024 := by omega
  have q4 : (0 : Int) ≤ (a : Int) := by omega
  have q5 : (0 : Int) ≤ (P : Int) := by omega
  have q6 : (0 : Int) ≤ (N : Int) := by omega
  have HQ0 := Lib.hid q0
  clear p hl h2 hg hP hN hsz hsh hroom hP' hN' hZ' htw hJ hK hxs hxl q0
  go_enter Try.func110, Try.ntmps110
  go_wp2_with fail
  rw [HQ0.out]
  obtain ⟨w1, hw1⟩ : ∃ w1, w1 = w.alloc (.cells #[.int .i64 P, .int .i64 N, .bool false, .int .i64 0] 112) := ⟨_, rfl⟩
  have hb1 : Below w.heap.size w w1 := by rw [hw1]; exact Gw.alloc w _
  have hk1 : Bk w1 w.heap.size 112 #[.int .i64 P, .int .i64 N, .bool false, .int .i64 0] := by rw [hw1]; exact Bk.new w _ _
  rw [← hw1]
  have HB1 := Lib.hid hb1
  refine pad_r _ _ _ s g w.heap.size B a Z J K b t e P N v ws xs hk1 (Lib.hid (HP.out.below hb1)) HS HX (Lib.hid HQ.out.2.2.2.2.2) HL HQ.out.1 HQ.out.2.1 (Int.natCast_nonneg _) (Int.natCast_nonneg _) HQ.out.2.2.1 HQ.out.2.2.2.1 (Int.natCast_nonneg _) HQ.out.2.2.2.2.1 (Int.natCast_nonneg _) rfl rfl rfl rfl rfl ?_
  intro vals w2 hG h8 h9
  obtain ⟨A, c, e8, hrd⟩ := h8
  unfold IsV at h9
  simp only [putD, Act.put, List.setIfInBounds_toArray, List.set_cons_zero, List.set_cons_succ, e8, h9]
  rw [HXl.out]
  have HB2 := Lib.hid (HB1.out.trans (hG.mono HB1.out.size))
  have HR := Lib.hid hrd
  have qK : (K : Int) ≤ 1000 := HQ.out.2.2.2.1
  clear hG e8 h9 hrd hk1 hw1 hb1
  go_wp2_with fail
  go_loopw [41, 11] (fun i y W => ∃ k : Nat, i = .int .i64 k ∧ k ≤ K ∧ Hid ((xs.take k).all (· == 0#8) = true) ∧ W = w2) (fun i _ _ => K - (Go.RowKit.intOf i).toNat)
  case atStart => exact ⟨0, rfl, Nat.zero_le _, Lib.hid rfl, rfl⟩
  case round =>
    obtain ⟨k, rfl, hk, hz, rfl⟩ := hrel
    by_cases hlt : k < K
    · have hkx : k < xs.length := by rw [HXl.out]; exact hlt
      obtain ⟨y, hy⟩ : ∃ y, y = xs[k] := ⟨_, rfl⟩
      obtain ⟨ad, rfl, _, hc⟩ := HR.out k hkx
      rw [← hy] at hc
      unfold b8 at hc
      have p1 : (0 : Int) ≤ (k : Int) := by omega
      have p2 : (k : Int) < (K : Int) := by omega
      by_cases hy0 : y = 0#8
      · have hU : U8 y = 0 := by rw [hy0]; decide +kernel
        rw [hU] at hc
        have HZ := Lib.hid (show (xs.take (k + 1)).all (· == 0#8) = true from by
          rw [List.take_succ_eq_append_getElem hkx, List.all_append, hz.out, ← hy, hy0]; rfl)
        clear hy hU hy0 hkx
        go_wp2_with fail
        clear hc
        go_roundw
        case rel => first | exact ⟨k + 1, by go_num, by omega, HZ, rfl⟩ | exact ⟨k + 1, by go_num, by omega, HZ, trivial⟩ | exact ⟨k + 1, by go_num, by omega, HZ⟩
        case measure => simp [Go.RowKit.intOf]; omega
      · have hU1 : (U8 y == 0) = false := by
          have : U8 y ≠ 0 := fun e => hy0 (by
            unfold U8 at e
            exact BitVec.eq_of_toNat_eq (by simpa using e))
          simpa using this
        have hU2 : (U8 y != 0) = true := by unfold bne; rw [hU1]; rfl
        have hRf : R = false := by
          rw [HRR.out]
          cases h : xs.all (· == 0#8) with
          | false => rfl
          | true =>
            have := List.all_eq_true.1 h y (by rw [hy]; exact List.getElem_mem _)
            exact absurd (by simpa using this) hy0
        subst hRf
        clear hy hy0 hkx
        go_wp2_with fail
        go_ret
        exact ⟨rfl, HB2.out⟩
    · have hkK : k = K := by omega
      have hRt : R = true := by
        rw [HRR.out, ← hz.out, hkK, List.take_of_length_le (by rw [HXl.out]; exact Nat.le_refl _)]
      subst hRt
      clear hz hkK
      go_wp2_with fail
      go_ret
      exact ⟨rfl, HB2.out⟩
end Go.Proofs.Ytkkjnahjmomjgaa
/- obj.Well. Conditions: lengths. -/
namespace Go.Proofs.Ytkkjnahjmomjgaa
set_option linter.unusedVariables false
set_option linter.unusedSimpArgs false
open Go.RowKit Go.Maps
section
variable {ops : Array Oper} {rest : List Oper} {o : Oper} {a : Act} {w : World} {Q : Exit → Act → World → Prop} {b : Nat} {m : List Int}
theorem wp_putI (hg : o.guard = none) (mm x v : Operand) (hop : o.op = Op.mapUpdate 173 mm x v)
    (hm : a.eval mm = .map (some b)) (h : SetI w b m) (p : Int) (hx : a.eval x = .int .i64 p) (hv : a.eval v = .agg #[]) (hp : kW p) (hl : m.length ≤ 1000000)
    (hK : ∀ w', SetI w' b (addS m p) → Kept (fun c => some b = some c) w w' → wpList Try.prog ops Q rest (a.put o.dst undef) w') : wpList Try.prog ops Q (o :: rest) a w := by
  refine wpList_plain hg fun K' hK' => ?_
  obtain ⟨w', hrun, r1, r2⟩ := h.put hp (by unfold maxLen; omega)
  unfold Oper.wp
  simp [execOp, hop, hm, hx, hv, hrun, Result.andThen]
  exact hK' _ _ (hK w' r1 r2)
end
theorem mk_set (W : World) (n : Int) : (Instr.makeMap 173 (some (.int .i64 n))).run Try.prog W = .ok (.map (some W.heap.size)) (W.alloc (.map #[] 0)) := by
  simp [Instr.makeMap, run_underlying Try.underlying173, asInt, asIntOf, Result.andThen]
theorem mem_addS {m : List Int} {p q : Int} : q ∈ addS m p ↔ q ∈ m ∨ q = p := by
  unfold addS
  split
  · rename_i h
    constructor
    · exact .inl
    · rintro (h1 | rfl)
      · exact h1
      · exact h
  · rw [List.mem_append, List.mem_singleton]
theorem addS_len {m : List Int} {p : Int} : (addS m p).length ≤ m.length + 1 := by
  unfold addS
  split
  · omega
  · rw [List.length_append]; exact Nat.le_refl _
theorem objF_mem {ws : List (BitVec 64)} {top : Nat} : ∀ (n a : Nat) (l : List Nat), objF ws top n a = some l → ∀ x ∈ l, a ≤ x ∧ x < top ∧ goodX (ws.getD x 0#64) (top - x) = true
  | 0, a, l, h, x, hx => by injection h with h; subst h; cases hx
  | n + 1, a, l, h, x, hx => by
    have e : objF ws top (n + 1) a = if a < top then (if goodX (ws.getD a 0#64) (top - a) = true then (objF ws top n (a + szX (ws.getD a 0#64))).map (a :: ·) else none) else some [] := rfl
    rw [e] at h
    by_cases c : a < top
    · rw [if_pos c] at h
      by_cases d : goodX (ws.getD a 0#64) (top - a) = true
      · rw [if_pos d] at h
        cases hr : objF ws top n (a + szX (ws.getD a 0#64)) with
        | none => rw [hr] at h; cases h
        | some r =>
          rw [hr] at h
          injection h with h
          subst h
          rcases List.mem_cons.1 hx with rfl | hx
          · exact ⟨Nat.le_refl _, c, d⟩
          · have := objF_mem n _ r hr x hx
            exact ⟨by omega, this.2⟩
      · rw [if_neg d] at h; cases h
    · rw [if_neg c] at h
      injection h with h
      subst h
      cases hx
theorem objF_len {ws : List (BitVec 64)} {top : Nat} : ∀ (n a : Nat) (l : List Nat), objF ws top n a = some l → l.length ≤ n
  | 0, a, l, h => by injection h with h; subst h; exact Nat.le_refl _
  | n + 1, a, l, h => by
    have e : objF ws top (n + 1) a = if a < top then (if goodX (ws.getD a 0#64) (top - a) = true then (objF ws top n (a + szX (ws.getD a 0#64))).map (a :: ·) else none) else some [] := rfl
    rw [e] at h
    by_cases c : a < top
    · rw [if_pos c] at h
      by_cases d : goodX (ws.getD a 0#64) (top - a) = true
      · rw [if_pos d] at h
        cases hr : objF ws top n (a + szX (ws.getD a 0#64)) with
        | none => rw [hr] at h; cases h
        | some r =>
          rw [hr] at h
          injection h with h
          subst h
          have := objF_len n _ r hr
          rw [List.length_cons]; omega
      · rw [if_neg d] at h; cases h
    · rw [if_neg c] at h
      injection h with h
      subst h
      exact Nat.zero_le _
/-- Does pointer k of the object at a place lead to one of some, or nowhere? -/
def ptrN (ws : List (BitVec 64)) (l : List Nat) (a k : Nat) : Bool := decide ((ws.getD (a + 1 + k) 0#64).toNat = 0 ∨ (1 ≤ (ws.getD (a + 1 + k) 0#64).toNat ∧ (ws.getD (a + 1 + k) 0#64).toNat - 1 ∈ l))
def padN (ws : List (BitVec 64)) (a : Nat) : Bool := padB ws (8 * (a + 1 + P0 (ws.getD a 0#64)) + B0 (ws.getD a 0#64)) (8 * (a + szX (ws.getD a 0#64)) - (8 * (a + 1 + P0 (ws.getD a 0#64)) + B0 (ws.getD a 0#64)))
def wellN (ws : List (BitVec 64)) (l : List Nat) (a : Nat) : Bool := (List.range (P0 (ws.getD a 0#64))).all (ptrN ws l a) && padN ws a
def wellE (ws : List (BitVec 64)) (b t : Nat) : Int := match objF ws t (t + 1) b with
  | none => 2
  | some l => if l.all (wellN ws l) = true then 0 else 2
theorem well_none {ws : List (BitVec 64)} {b t : Nat} (h : objF ws t (t + 1) b = none) : wellE ws b t = 2 := by unfold wellE; rw [h]
theorem well_some {ws : List (BitVec 64)} {b t : Nat} {l : List Nat} (h : objF ws t (t + 1) b = some l) : wellE ws b t = if l.all (wellN ws l) = true then 0 else 2 := by unfold wellE; rw [h]
theorem all_no {α : Type} {f : α → Bool} {l : List α} {x : α} (hx : x ∈ l) (h : f x = false) : ¬ l.all f = true := fun e => by
  have := List.all_eq_true.1 e x hx
  rw [h] at this; cases this
set_option maxHeartbeats 4000000
set_option maxRecDepth 100000
theorem well_c (w : World) (B s g : Nat) (v : Value) (ws : List (BitVec 64)) (b t e : Nat) (p : SpAt w B s g v ws b t e) (hl : ws.length ≤ 8192) :
    Calls Try.prog 98 #[.pointer (some ⟨s, 0, none⟩)] w (RetP (.int .i64 (wellE ws b t)) w) := by
  have HOb := Lib.hid (objects_c w B s g v ws b t e p (by omega))
  obtain ⟨R, hR⟩ : ∃ R, R = wellE ws b t := ⟨_, rfl⟩
  rw [← hR]
  have HR := Lib.hid hR
  have HP := Lib.hid p
  have HL := Lib.hid hl
  have HT := Lib.hid (show t ≤ 8192 from by have := p.te; have := p.el; omega)
  clear hR p hl
  cases ho : objF ws t (t + 1) b with
  | none =>
    rw [ho] at HOb
    have HOb2 := Lib.hid (show Calls Try.prog 97 #[.pointer (some ⟨s, 0, none⟩)] w (RetP (.tuple #[.slice none 0 0, .int .i64 2]) w) from HOb.out)
    obtain rfl : R = 2 := by rw [HR.out]; exact well_none ho
    clear HOb ho HR
    go_enter Try.func98, Try.ntmps98
    go_wp2_with fail
    refine Calls.mono HOb2.out ?_
    rintro r w2 ⟨rfl, b2⟩
    have HB2 := Lib.hid b2
    clear b2
    go_wp2_with fail
    go_ret
    exact ⟨rfl, HB2.out⟩
  | some l =>
    rw [ho] at HOb
    have HOb2 := Lib.hid (show Calls Try.prog 97 #[.pointer (some ⟨s, 0, none⟩)] w (MkEP iN 3 l 0 w) from HOb.out)
    have HRl := Lib.hid (show R = if l.all (wellN ws l) = true then 0 else 2 from by rw [HR.out]; exact well_some ho)
    have HMem := Lib.hid (objF_mem _ _ _ ho)
    have hlen := objF_len _ _ _ ho
    obtain ⟨N, hN⟩ : ∃ N, N = l.length := ⟨_, rfl⟩
    have qN : (N : Int) ≤ 8193 := by have := HT.out; omega
    have HN := Lib.hid hN
    clear HOb ho HR hlen hN
    go_enter Try.func98, Try.ntmps98
    go_wp2_with fail
    refine Calls.mono HOb2.out ?_
    rintro r w2 ⟨A, c, rfl, hc, ho, b2⟩
    have HB2 := Lib.hid b2
    have HRd := Lib.hid ho.rd
    rw [← HN.out]
    clear hc ho b2
    have hmk := mk_set w2 (N : Int)
    go_wp2_with fail
    clear hmk
    obtain ⟨mb, hmb⟩ : ∃ mb, mb = w2.heap.size := ⟨_, rfl⟩
    obtain ⟨w3, hw3⟩ : ∃ w3, w3 = w2.alloc (.map #[] 0) := ⟨_, rfl⟩
    have hb3 : Below w2.heap.size w2 w3 := by rw [hw3]; exact Gw.alloc w2 _
    have hs3 : SetI w3 mb [] := by rw [hw3, hmb]; exact SetI.made w2
    rw [← hmb, ← hw3]
    have H3 := Lib.hid (And.intro hb3 (And.intro hs3 hmb))
    clear hmb hw3 hb3 hs3
    go_loopw [30] (fun i W => ∃ k : Nat, i = .int .i64 k ∧ k ≤ N ∧ Hid (Below w2.heap.size w2 W ∧ ∃ M, SetI W mb M ∧ (∀ x : Int, x ∈ M ↔ ∃ y ∈ l.take k, x = (y : Int)) ∧ M.length ≤ k)) (fun i _ => N - (Go.RowKit.intOf i).toNat)
    case atStart => exact ⟨0, rfl, Nat.zero_le _, Lib.hid ⟨H3.out.1, [], H3.out.2.1, fun x => by simp, Nat.zero_le _⟩⟩
    case round =>
      obtain ⟨k, rfl, hk, hS⟩ := hrel
      by_cases hlt : k < N
      · have hkl : k < l.length := by rw [← HN.out]; exact hlt
        obtain ⟨y, hy⟩ : ∃ y, y = l[k] := ⟨_, rfl⟩
        obtain ⟨hb, M, hM, hMi, hMl⟩ := hS.out
        obtain ⟨ad, rfl, _, hc⟩ := (HRd.out.below hb) k hkl
        rw [← hy] at hc
        unfold iN at hc
        have hyt := (HMem.out y (by rw [hy]; exact List.getElem_mem _)).2.1
        have hkw : kW (y : Int) := wfI (by omega) (by have := HT.out; omega)
        have HK := Lib.hid (And.intro hkw (show M.length ≤ 1000000 from by omega))
        have HSt := Lib.hid hM
        have HNx := Lib.hid (show ∀ (W : World), Kept (fun c => some mb = some c) wr W → SetI W mb (addS M (y : Int)) → (Below w2.heap.size w2 W ∧ ∃ M, SetI W mb M ∧ (∀ x : Int, x ∈ M ↔ ∃ z ∈ l.take (k + 1), x = (z : Int)) ∧ M.length ≤ k + 1) from fun W hk2 hs2 => by
          refine ⟨hb.trans (hk2.below hb.size (fun c e => by injection e with e; have := H3.out.2.2; omega)), _, hs2, fun x => ?_, Nat.le_trans addS_len (by omega)⟩
          rw [mem_addS, hMi, List.take_succ_eq_append_getElem hkl, ← hy]
          constructor
          · rintro (⟨z, hz, rfl⟩ | rfl)
            · exact ⟨z, List.mem_append.2 (.inl hz), rfl⟩
            · exact ⟨y, by simp, rfl⟩
          · rintro ⟨z, hz, rfl⟩
            rcases List.mem_append.1 hz with hz | hz
            · exact .inl ⟨z, hz, rfl⟩
            · right; rw [List.mem_singleton.1 hz])
        have p1 : (0 : Int) ≤ (k : Int) := by omega
        have p2 : (k : Int) < (N : Int) := by omega
        clear hy hb hM hMi hMl hyt hkw hkl
        go_wp2_with (at_mapUpdate; refine wp_putI rfl (.tmp 34) (.tmp 35) (.tmp 36) rfl rfl HSt.out (y : Int) rfl rfl HK.out.1 HK.out.2 ?_; intro w8 h8 k8; have HX := Lib.hid (HNx.out w8 k8 h8); clear h8 k8)
        clear hc
        go_roundw
        case rel => first | exact ⟨k + 1, by go_num, by omega, HX⟩ | exact ⟨_, ⟨k + 1, by go_num, by omega, HX⟩, rfl⟩
        case measure => simp [Go.RowKit.intOf]; omega
      · have hkN : k = N := by omega
        obtain ⟨hb, M, hM, hMi, hMl⟩ := hS.out
        rw [hkN, List.take_of_length_le (by rw [← HN.out]; exact Nat.le_refl _)] at hMi
        obtain ⟨w5, hw5⟩ : ∃ w5, w5 = wr := ⟨_, rfl⟩
        rw [← hw5] at hb hM ⊢
        have H5 := Lib.hid (And.intro (HB2.out.trans (hb.mono HB2.out.size)) (And.intro hM hMi))
        have HRd5 := Lib.hid (HRd.out.below hb)
        have hw2 := hb.size
        clear hS hb hM hMi hMl hkN hw5
        go_wp2_with fail
        clear hlt hk
        go_loopw [40] (fun i W => ∃ k : Nat, i = .int .i64 k ∧ k ≤ N ∧ Hid ((l.take k).all (wellN ws l) = true) ∧ Hid (Below w5.heap.size w5 W)) (fun i _ => N - (Go.RowKit.intOf i).toNat)
        case atStart => exact ⟨0, rfl, Nat.zero_le _, Lib.hid rfl, Lib.hid (Below.refl _ _)⟩
        case round =>
          obtain ⟨k, rfl, hk, hW, hB⟩ := hrel
          by_cases hlt : k < N
          · have hkl : k < l.length := by rw [← HN.out]; exact hlt
            obtain ⟨a, ha⟩ : ∃ a, a = l[k] := ⟨_, rfl⟩
            have ham : a ∈ l := by rw [ha]; exact List.getElem_mem _
            obtain ⟨hab, hat, hag⟩ := HMem.out a ham
            obtain ⟨ad, rfl, _, hc⟩ := (HRd5.out.below (hB.out.mono hw2)) k hkl
            rw [← ha] at hc
            unfold iN at hc
            have HLk := Lib.hid (look_ok wr B s g v ws b t e (HP.out.below (H5.out.1.trans (hB.out.mono H5.out.1.size))) (by have := HL.out; omega) a hab hat hag)
            have HPt := Lib.hid (fun W (hb : Below w5.heap.size w5 W) (j : Nat) (hj : j < P0 (ws.getD a 0#64)) => Ptr_c W B s g v ws b t e (HP.out.below (H5.out.1.trans (hb.mono H5.out.1.size))) HL.out a j hab hat hag hj)
            have HPd := Lib.hid (fun W (hb : Below w5.heap.size w5 W) => padded_c W B s g v ws b t e (HP.out.below (H5.out.1.trans (hb.mono H5.out.1.size))) (by have := HL.out; omega) a hat hag)
            have HTk := Lib.hid (show l.take (k + 1) = l.take k ++ [a] from by rw [List.take_succ_eq_append_getElem hkl, ha])
            obtain ⟨PD, hPD⟩ : ∃ q, q = padN ws a := ⟨_, rfl⟩
            have hpd0 : padB ws (8 * (a + 1 + P0 (ws.getD a 0#64)) + B0 (ws.getD a 0#64)) (8 * (a + szX (ws.getD a 0#64)) - (8 * (a + 1 + P0 (ws.getD a 0#64)) + B0 (ws.getD a 0#64))) = PD := by rw [hPD]; rfl
            rw [hpd0] at HPd
            have hPb := (head_of hag).2.1
            obtain ⟨P, hP'⟩ : ∃ P, P = P0 (ws.getD a 0#64) := ⟨_, rfl⟩
            obtain ⟨BN, hN'⟩ : ∃ P, P = B0 (ws.getD a 0#64) := ⟨_, rfl⟩
            have hwn : wellN ws l a = ((List.range P).all (ptrN ws l a) && PD) := by rw [hP', hPD]; rfl
            have HWn := Lib.hid (And.intro hwn ham)
            rw [← hP', ← hN'] at HLk HPd
            rw [← hP'] at HPt hPb
            have p1 : (0 : Int) ≤ (k : Int) := by omega
            have p2 : (k : Int) < (N : Int) := by omega
            have q3 : (P : Int) ≤ 64 := by omega
            clear ha ham hab hat hag hPD hpd0 hPb hP' hN' hwn hkl
            go_wp2_with fail
            refine Calls.mono HLk.out ?_
            rintro r w6 ⟨rfl, b6⟩
            have HB6 := Lib.hid (hB.out.trans (b6.mono hB.out.size))
            clear b6 hc
            go_wp2_with fail
            obtain ⟨hx, hhx⟩ : ∃ hx, hx = w6.heap.size := ⟨_, rfl⟩
            obtain ⟨w7, hw7⟩ : ∃ w7, w7 = w6.alloc (.cells #[.int .i64 P, .int .i64 BN, .bool false, .int .i64 0] 112) := ⟨_, rfl⟩
            have hb7 : Below w6.heap.size w6 w7 := by rw [hw7]; exact Gw.alloc w6 _
            have hk7 : Bk w7 hx 112 #[.int .i64 P, .int .i64 BN, .bool false, .int .i64 0] := by rw [hw7, hhx]; exact Bk.new w6 _ _
            rw [← hhx, ← hw7]
            have H7 := Lib.hid (And.intro (HB6.out.trans (hb7.mono HB6.out.size)) hk7)
            clear hhx hw7 hb7 hk7
            go_loopw [55] (fun i W => ∃ j : Nat, i = .int .i64 j ∧ j ≤ P ∧ Hid ((List.range j).all (ptrN ws l a) = true) ∧ Hid (Below w7.heap.size w7 W)) (fun i _ => P - (Go.RowKit.intOf i).toNat)
            case atStart => exact ⟨0, rfl, Nat.zero_le _, Lib.hid rfl, Lib.hid (Below.refl _ _)⟩
            case round =>
              clear hlt hk
              obtain ⟨j, rfl, hj, hA, hB7⟩ := hrel
              by_cases hjt : j < P
              · have HB5 := Lib.hid (H7.out.1.trans (hB7.out.mono H7.out.1.size))
                have HC := Lib.hid (HPt.out wr HB5.out j hjt)
                obtain ⟨y, hy⟩ : ∃ y, y = ws.getD (a + 1 + j) 0#64 := ⟨_, rfl⟩
                rw [← hy] at HC
                have hpn : ptrN ws l a j = decide (y.toNat = 0 ∨ (1 ≤ y.toNat ∧ y.toNat - 1 ∈ l)) := by unfold ptrN; rw [← hy]
                have HPn := Lib.hid hpn
                have HRg := Lib.hid (show (List.range (j + 1)).all (ptrN ws l a) = ptrN ws l a j from by rw [List.range_succ, List.all_append, hA.out]; simp)
                have HNo := Lib.hid (show ptrN ws l a j = false → R = 2 from fun h => by
                  rw [HRl.out, if_neg (all_no HWn.out.2 ?_)]
                  rw [HWn.out.1, Bool.and_eq_false_iff]
                  left
                  cases h2 : (List.range P).all (ptrN ws l a) with
                  | false => rfl
                  | true =>
                    have := List.all_eq_true.1 h2 j (List.mem_range.2 hjt)
                    rw [h] at this; cases this)
                have p3 : (0 : Int) ≤ (j : Int) := by omega
                have p4 : (j : Int) < (P : Int) := by omega
                clear hy hpn
                cases hpk : pokB b t y with
                | false =>
                  rw [(pt_no hpk).1, (pt_no hpk).2] at HC
                  obtain rfl : R = 2 := HNo.out (by
                    rw [HPn.out, decide_eq_false_iff_not]
                    rintro (h | ⟨h1, h2⟩)
                    · unfold pokB at hpk; simp [h] at hpk
                    · have := HMem.out _ h2
                      unfold pokB at hpk
                      rw [decide_eq_false_iff_not] at hpk
                      omega)
                  clear hpk
                  go_wp2_with fail
                  refine Calls.mono HC.out ?_
                  rintro r w8 ⟨rfl, b8⟩
                  have HB8 := Lib.hid (HB5.out.trans (b8.mono HB5.out.size))
                  clear b8
                  go_wp2_with fail
                  go_ret
                  exact ⟨rfl, H5.out.1.trans (HB8.out.mono H5.out.1.size)⟩
                | true =>
                  rw [(pt_yes hpk).1, (pt_yes hpk).2] at HC
                  obtain ⟨n, hn⟩ : ∃ n, n = y.toNat := ⟨_, rfl⟩
                  rw [← hn] at HC HPn
                  have hpk2 : n = 0 ∨ (b < n ∧ n ≤ t) := by
                    unfold pokB at hpk
                    rw [← hn] at hpk
                    exact of_decide_eq_true hpk
                  have hnt : n ≤ 8192 := by have := HT.out; omega
                  obtain ⟨d, hd⟩ : ∃ d, d = decide (((n : Int) - 1) ∈ M) := ⟨_, rfl⟩
                  have HLo := Lib.hid (fun W (hb : Below w5.heap.size w5 W) => (H5.out.2.1.below hb).look (p := (n : Int) - 1) (wfI (by omega) (by omega)))
                  rw [← hd] at HLo
                  have HD := Lib.hid (show ((n : Int) - 1) ∈ M ↔ (1 ≤ n ∧ n - 1 ∈ l) from by
                    rw [H5.out.2.2]
                    constructor
                    · rintro ⟨z, hz, e⟩
                      have : n = z + 1 := by omega
                      subst this
                      exact ⟨by omega, by simpa using hz⟩
                    · rintro ⟨h1, h2⟩
                      exact ⟨n - 1, h2, by omega⟩)
                  have HDd := Lib.hid hd
                  clear hn hpk hpk2 hd
                  go_wp2_with fail
                  refine Calls.mono HC.out ?_
                  rintro r w8 ⟨rfl, b8⟩
                  have HB8 := Lib.hid (HB5.out.trans (b8.mono HB5.out.size))
                  have HB78 := Lib.hid (hB7.out.trans (b8.mono hB7.out.size))
                  have hlk := HLo.out w8 HB8.out
                  have hhz := HB8.out.size
                  clear b8
                  by_cases hn0 : n = 0
                  · subst hn0
                    have hd0 : d = false := by
                      rw [HDd.out, decide_eq_false_iff_not, HD.out]; omega
                    subst hd0
                    have hok := (HRg.out.trans HPn.out)
                    have HOk := Lib.hid (show (List.range (j + 1)).all (ptrN ws l a) = true from by rw [hok]; simp)
                    clear hok hnt hjt
                    have hlk2 : (Instr.lookup 173 (.map (some mb)) (.int .i64 (-1)) true).run Try.prog w8 = .ok (.tuple #[.agg #[], .bool false]) w8 := hlk
                    clear hlk
                    go_wp2_with fail
                    have HB9 := Lib.hid (show Below w7.heap.size w7 (w8.alloc (.cells #[] 174)) from HB78.out.trans ((Gw.alloc w8 _).mono HB78.out.size))
                    clear hlk2
                    go_roundw
                    case rel => exact ⟨j + 1, by go_num, by omega, HOk, HB9⟩
                    case measure => simp [Go.RowKit.intOf]; omega
                  · obtain ⟨m, hm⟩ : ∃ m : Nat, (n : Int) - 1 = (m : Int) := ⟨n - 1, by omega⟩
                    have q1 : ((m : Int) == -1) = false := by simp
                    have q2 : ((m : Int) != -1) = true := by simp
                    have hpd : ptrN ws l a j = d := by
                      rw [HPn.out, HDd.out, decide_eq_decide, HD.out]
                      constructor
                      · rintro (h | h)
                        · exact absurd h hn0
                        · exact h
                      · exact .inr
                    rw [hm] at hlk ⊢
                    cases d with
                    | true =>
                      have HOk := Lib.hid (show (List.range (j + 1)).all (ptrN ws l a) = true from by rw [HRg.out, hpd])
                      clear hpd hm hn0 hnt hjt
                      go_wp2_with fail
                      have HB9 := Lib.hid (show Below w7.heap.size w7 (w8.alloc (.cells #[] 174)) from HB78.out.trans ((Gw.alloc w8 _).mono HB78.out.size))
                      clear hlk q1 q2
                      go_roundw
                      case rel => exact ⟨j + 1, by go_num, by omega, HOk, HB9⟩
                      case measure => simp [Go.RowKit.intOf]; omega
                    | false =>
                      obtain rfl : R = 2 := HNo.out hpd
                      clear hpd hm hn0 hnt hjt
                      go_wp2_with fail
                      have HB9 := Lib.hid (HB8.out.trans ((Gw.alloc w8 (.cells #[] 174)).mono HB8.out.size))
                      clear hlk q1 q2
                      go_ret
                      exact ⟨rfl, H5.out.1.trans (HB9.out.mono H5.out.1.size)⟩
              · have hjP : j = P := by omega
                have HAl := Lib.hid (show (List.range P).all (ptrN ws l a) = true from by rw [← hjP]; exact hA.out)
                have HB5 := Lib.hid (H7.out.1.trans (hB7.out.mono H7.out.1.size))
                have hk8 := H7.out.2.below hB7.out H7.out.2.lt
                obtain ⟨d0, d1, d2, d3⟩ := hk8.four
                clear hA hk8 hjP
                go_wp2_with fail
                refine Calls.mono (HPd.out wr HB5.out) ?_
                rintro r w8 ⟨rfl, b8⟩
                have HB8 := Lib.hid (HB5.out.trans (b8.mono HB5.out.size))
                clear b8 d0 d1 d2 d3
                cases PD with
                | true =>
                  have HX := Lib.hid (show (l.take (k + 1)).all (wellN ws l) = true from by
                    rw [HTk.out, List.all_append, hW.out, Bool.true_and, List.all_cons, List.all_nil, Bool.and_true, HWn.out.1, HAl.out]; rfl)
                  go_wp2_with fail
                  go_roundw
                  case rel => exact ⟨k + 1, by go_num, by omega, HX, HB8⟩
                  case measure => simp [Go.RowKit.intOf]; omega
                | false =>
                  obtain rfl : R = 2 := by
                    rw [HRl.out, if_neg (all_no HWn.out.2 ?_)]
                    rw [HWn.out.1, Bool.and_false]
                  go_wp2_with fail
                  go_ret
                  exact ⟨rfl, H5.out.1.trans (HB8.out.mono H5.out.1.size)⟩
          · have hkN : k = N := by omega
            obtain rfl : R = 0 := by
              have h := hW.out
              rw [hkN, List.take_of_length_le (by rw [← HN.out]; exact Nat.le_refl _)] at h
              rw [HRl.out, if_pos h]
            clear hkN
            go_wp2_with fail
            go_ret
            exact ⟨rfl, H5.out.1.trans (hB.out.mono H5.out.1.size)⟩
end Go.Proofs.Ytkkjnahjmomjgaa
