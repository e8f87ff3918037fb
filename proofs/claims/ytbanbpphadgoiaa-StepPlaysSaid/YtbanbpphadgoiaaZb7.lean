/- Texts joined: ObL RcA RcB RcC SpJ RcD RcE RcF. -/
import Derived.Test.YtbanbpphadgoiaaZb6
import Derived.Test.YtbanbpphadgoiaaSpG
import Derived.Test.YtbanbpphadgoiaaSpI
import Derived.Test.YtbanbpphadgoiaaSpF
/- The reference's Well: among, Points. Conditions: lengths. (BEGUN: what builds stands here.) -/
namespace Go.Proofs.Ytbanbpphadgoiaa
set_option linter.unusedVariables false
set_option linter.unusedSimpArgs false
open Go.RowKit
set_option maxHeartbeats 1000000
set_option maxRecDepth 100000
theorem among_c (w : World) (A : Option Addr) (c : Nat) (l : List Nat) (hr : Rd iN w w.heap.size A l) (hl : l.length ≤ 100000) (x : Int) :
    Calls Try.prog 68 #[.slice A l.length c, .int .i64 x] w (RetP (.bool (decide (∃ y ∈ l, (y : Int) = x))) w) := by
  obtain ⟨R, hR⟩ : ∃ R, R = decide (∃ y ∈ l, (y : Int) = x) := ⟨_, rfl⟩
  rw [← hR]
  obtain ⟨N, hN⟩ : ∃ N, N = l.length := ⟨_, rfl⟩
  rw [← hN]
  have qN : (N : Int) ≤ 100000 := by omega
  have HR := Lib.hid hR
  have HN := Lib.hid hN
  have HD := Lib.hid hr
  clear hR hN hr hl
  go_enter Try.func68, Try.ntmps68
  go_wp2_with fail
  go_loopw [5] (fun i W => ∃ k : Nat, i = .int .i64 k ∧ k ≤ N ∧ Hid (∀ y ∈ l.take k, (y : Int) ≠ x) ∧ Below w.heap.size w W) (fun i _ => N - (Go.RowKit.intOf i).toNat)
  case atStart => exact ⟨0, rfl, Nat.zero_le _, Lib.hid (by simp), Below.refl _ _⟩
  case round =>
    obtain ⟨k, rfl, hk, hS, hB⟩ := hrel
    by_cases hlt : k < N
    · have q1 : (0 : Int) ≤ (k : Int) := by omega
      have q2 : (k : Int) < (N : Int) := by omega
      have hkl : k < l.length := by rw [← HN.out]; exact hlt
      obtain ⟨yn, hyn⟩ : ∃ yn : Nat, l[k]? = some yn := ⟨_, List.getElem?_eq_getElem hkl⟩
      have hye : l[k] = yn := (List.getElem?_eq_some_iff.1 hyn).2
      obtain ⟨y, hy⟩ : ∃ y : Int, y = (yn : Int) := ⟨_, rfl⟩
      obtain ⟨ad, rfl, hcell⟩ : ∃ ad, A = some ad ∧ wr.cell? (ad.add k) = some (.int .i64 y) := by
        obtain ⟨ad, e, _, hc⟩ := (HD.out.below hB) k hkl
        exact ⟨ad, e, by rw [hy, ← hye]; exact hc⟩
      have HY := Lib.hid (show y = (yn : Int) ∧ yn ∈ l ∧ l.take (k + 1) = l.take k ++ [yn] from ⟨hy, List.mem_of_getElem? hyn, by rw [List.take_succ_eq_append_getElem hkl, hye]⟩)
      have HB := Lib.hid hB
      clear hy hye hyn hkl hB
      by_cases he : y = x
      · have hRt := Lib.hid (show R = true from by
          rw [HR.out]
          exact decide_eq_true ⟨yn, HY.out.2.1, by rw [← HY.out.1]; exact he⟩)
        go_wp2_with fail
        go_ret
        exact ⟨by rw [hRt.out]; rfl, HB.out⟩
      · have HX := Lib.hid (show ∀ z ∈ l.take (k + 1), (z : Int) ≠ x from by
          intro z hz
          rw [HY.out.2.2] at hz
          rcases List.mem_append.1 hz with hz | hz
          · exact hS.out z hz
          · rw [List.mem_singleton.1 hz, ← HY.out.1]; exact he)
        clear hS
        go_wp2_with fail
        go_roundw
        case rel => first | exact ⟨k + 1, by go_num, by omega, HX, HB.out⟩ | ((repeat apply Exists.intro); refine ⟨?_, rfl⟩; exact ⟨k + 1, by go_num, by omega, HX, HB.out⟩)
        case measure => simp [Go.RowKit.intOf]; omega
    · have hNk : N = k := by omega
      have hRf := Lib.hid (show R = false from by
        rw [HR.out]
        refine decide_eq_false ?_
        rintro ⟨y, hy, e⟩
        have := hS.out y (by rw [← hNk, HN.out, List.take_length]; exact hy)
        exact this e)
      have HB := Lib.hid hB
      clear hS hB hlt hk
      subst hNk
      go_wp2_with fail
      go_ret
      exact ⟨by rw [hRf.out]; rfl, HB.out⟩
theorem points_c (w : World) (A : Option Addr) (c : Nat) (l : List Nat) (hr : Rd iN w w.heap.size A l) (hl : l.length ≤ 100000) (hb : ∀ y ∈ l, y < 1073741824) (x : BitVec 64) :
    Calls Try.prog 66 #[.slice A l.length c, .int .u64 (U64 x)] w (RetP (.bool (decide (x.toNat = 0 ∨ (1 ≤ x.toNat ∧ x.toNat - 1 ∈ l)))) w) := by
  obtain ⟨R, hR⟩ : ∃ R, R = decide (x.toNat = 0 ∨ (1 ≤ x.toNat ∧ x.toNat - 1 ∈ l)) := ⟨_, rfl⟩
  rw [← hR]
  obtain ⟨m, hm⟩ : ∃ m : Nat, m = x.toNat := ⟨_, rfl⟩
  have hx : U64 x = (m : Int) := by rw [hm]; rfl
  rw [hx]
  rw [← hm] at hR
  have HA := Lib.hid (fun z => among_c w A c l hr hl z)
  have m1 : (m : Int) < 18446744073709551616 := by have := x.isLt; omega
  have m0 : (0 : Int) ≤ (m : Int) := by omega
  obtain ⟨N, hN⟩ : ∃ N, N = l.length := ⟨_, rfl⟩
  rw [← hN] at HA ⊢
  have HR := Lib.hid (And.intro hR hb)
  clear hr hl hb hx hm hR hN
  by_cases c0 : m = 0
  · subst c0
    have hT := Lib.hid (show R = true from by rw [HR.out.1]; exact decide_eq_true (.inl rfl))
    go_enter Try.func66, Try.ntmps66
    go_wp2_with fail
    go_ret
    exact ⟨by rw [hT.out]; rfl, Below.refl _ _⟩
  obtain ⟨d, hd⟩ : ∃ d : Nat, m = d + 1 := ⟨m - 1, by omega⟩
  obtain ⟨z, hz⟩ : ∃ z : Int, z = (m : Int) := ⟨_, rfl⟩
  rw [← hz]
  have z1 : (1 : Int) ≤ z := by omega
  have z2 : z < 18446744073709551616 := by omega
  have e1 : z - 1 = (d : Int) := by omega
  have n0 : z ≠ 0 := by omega
  have d1 : (d : Int) < 18446744073709551616 := by omega
  subst hd
  clear m1 m0 c0 hz
  by_cases c1 : (d : Int) < 1073741824
  · have hV := Lib.hid (show R = decide (∃ y ∈ l, (y : Int) = (d : Int)) from by
      rw [HR.out.1]
      refine decide_eq_decide.2 ⟨fun h => ?_, fun h => ?_⟩
      · rcases h with h | ⟨_, h⟩
        · omega
        · exact ⟨d, by simpa using h, rfl⟩
      · obtain ⟨y, hy, e⟩ := h
        right
        have : y = d := by omega
        subst this
        exact ⟨by omega, by simpa using hy⟩)
    have HC := Lib.hid (HA.out (d : Int))
    rw [← hV.out] at HC
    clear HA hV
    go_enter Try.func66, Try.ntmps66
    go_wp2_with fail
    refine Calls.mono HC.out ?_
    rintro r w1 ⟨rfl, b1⟩
    have HB := Lib.hid b1
    clear b1
    go_wp2_with fail
    go_ret
    exact ⟨by simp [n0], HB.out⟩
  · have hF := Lib.hid (show R = false from by
      rw [HR.out.1]
      refine decide_eq_false ?_
      rintro (h | ⟨_, h⟩)
      · omega
      · have := HR.out.2 _ h
        omega)
    clear HA
    go_enter Try.func66, Try.ntmps66
    go_wp2_with fail
    go_ret
    exact ⟨by rw [hF.out]; simp [n0], Below.refl _ _⟩
theorem byte_val (ws : List (BitVec 64)) (i r : Nat) (hr : i % 8 = r) : IntKind.u8.wrap (U64 (ws.getD (i / 8) 0#64) / ((2 ^ (8 * r) : Nat) : Int)) = U8 (byteAt ws i) := by
  unfold byteAt
  rw [hr]
  have e : U8 (((ws.getD (i / 8) 0#64) >>> (8 * r)).setWidth 8) = (((ws.getD (i / 8) 0#64).toNat / 2 ^ (8 * r) % 256 : Nat) : Int) := by
    unfold U8
    rw [BitVec.toNat_setWidth, BitVec.toNat_ushiftRight, Nat.shiftRight_eq_div_pow]
  rw [e, IntKind.wrap_u8]
  unfold U64
  rw [← Int.natCast_ediv]
  rfl
theorem rbyte_c (w : World) (A : Option Addr) (c : Nat) (ws : List (BitVec 64)) (hr : Rd u64v w w.heap.size A ws) (hl : ws.length ≤ 100000) (i : Nat) (hi : i < 8 * ws.length) :
    Calls Try.prog 83 #[.slice A ws.length c, .int .i64 i] w (RetP (.int .u8 (U8 (byteAt ws i))) w) := by
  obtain ⟨N, hN⟩ : ∃ N, N = ws.length := ⟨_, rfl⟩
  rw [← hN]
  have hq : i / 8 < ws.length := by omega
  obtain ⟨x, hx⟩ : ∃ x, x = U64 (ws.getD (i / 8) 0#64) := ⟨_, rfl⟩
  have hxx : u64v ws[i / 8] = .int .u64 x := by
    rw [hx]
    simp [List.getD, hq, u64v]
  obtain ⟨ad, rfl, hcell⟩ : ∃ ad, A = some ad ∧ w.cell? (ad.add (i / 8)) = some (.int .u64 x) := by
    obtain ⟨ad, e, _, hc⟩ := hr (i / 8) hq
    exact ⟨ad, e, by rw [← hxx]; exact hc⟩
  obtain ⟨Q, hQ⟩ : ∃ Q : Nat, Q = i / 8 := ⟨_, rfl⟩
  obtain ⟨I, hI⟩ : ∃ I : Int, I = (i : Int) := ⟨_, rfl⟩
  have e1 : I.tdiv 8 = (Q : Int) := by rw [hI, hQ]; rfl
  have e2 : I / 8 = (Q : Int) := by rw [hI, hQ]; rfl
  have e0 : (0 : Int) ≤ I := by omega
  have e5 : I ≤ 800000 := by omega
  have e3 : (0 : Int) ≤ (Q : Int) := by omega
  have e4 : (Q : Int) < (N : Int) := by omega
  have e6 : (N : Int) ≤ 100000 := by omega
  obtain ⟨r, hr8⟩ : ∃ r, i % 8 = r := ⟨_, rfl⟩
  have HV := Lib.hid (byte_val ws i r hr8)
  rw [← hx] at HV
  obtain ⟨y, hy⟩ : ∃ y, y = U8 (byteAt ws i) := ⟨_, rfl⟩
  rw [← hy] at HV ⊢
  have hm : I.tmod 8 = (r : Int) := by rw [hI, ← hr8]; rfl
  have hr9 : r < 8 := by omega
  rw [← hQ] at hcell
  rw [← hI]
  clear hr hl hi hN hq hx hxx hQ hI hr8 hy
  obtain rfl | rfl | rfl | rfl | rfl | rfl | rfl | rfl : r = 0 ∨ r = 1 ∨ r = 2 ∨ r = 3 ∨ r = 4 ∨ r = 5 ∨ r = 6 ∨ r = 7 := by omega
  · have h := HV.out
    rw [IntKind.wrap_u8, show (((2 ^ (8 * 0) : Nat) : Nat) : Int) = 1 from rfl, Int.ediv_one] at h
    have HE := Lib.hid h
    clear h HV
    go_enter Try.func83, Try.ntmps83
    go_wp2_with fail
    go_ret
    exact ⟨congrArg (fun z => Ending.returned (Value.int .u8 z)) HE.out, Below.refl _ _⟩
  all_goals
    have h := HV.out
    rw [IntKind.wrap_u8] at h
    have HE := Lib.hid h
    clear h HV
    go_enter Try.func83, Try.ntmps83
    go_wp2_with fail
    go_ret
    exact ⟨congrArg (fun z => Ending.returned (Value.int .u8 z)) HE.out, Below.refl _ _⟩
theorem pad_step (ws : List (BitVec 64)) (J k : Nat) (h : (bytesM ws J k).all (· == 0#8) = true) (hz : byteAt ws (J + k) = 0#8) : (bytesM ws J (k + 1)).all (· == 0#8) = true := by
  unfold bytesM at h ⊢
  rw [List.range_succ, List.map_append, List.all_append, h]
  simp [hz]
theorem pad_no (ws : List (BitVec 64)) (J k K : Nat) (hk : k < K) (hz : byteAt ws (J + k) ≠ 0#8) : padB ws J K = false := by
  unfold padB
  cases h : (bytesM ws J K).all (· == 0#8) with
  | false => rfl
  | true =>
    have := List.all_eq_true.1 h (byteAt ws (J + k)) (by unfold bytesM; exact List.mem_map.2 ⟨k, List.mem_range.2 hk, rfl⟩)
    exact absurd (by simpa using this) hz
theorem rpad_c (w : World) (R : Nat) (A : Option Addr) (c : Nat) (ws : List (BitVec 64)) (b t e : Nat) (p : RefAt w R A c ws b t e) (hl : ws.length ≤ 100000) (a P n S : Nat) (hP : P ≤ 64) (hn : n ≤ 1024) (hS : sizeH (P : Int) (n : Int) false 0 = (S : Int)) (hS2 : S ≤ 1000) (ha : a + S ≤ ws.length) (hJ : 8 * (a + 1 + P) + n ≤ 8 * (a + S)) :
    Calls Try.prog 67 #[.pointer (some ⟨R, 0, none⟩), .int .i64 a, .agg #[.int .i64 P, .int .i64 n, .bool false, .int .i64 0]] w (RetP (.bool (!padB ws (8 * (a + 1 + P) + n) (8 * (a + S) - (8 * (a + 1 + P) + n)))) w) := by
  obtain ⟨J, hJe⟩ : ∃ J, J = 8 * (a + 1 + P) + n := ⟨_, rfl⟩
  obtain ⟨K, hKe⟩ : ∃ K, K = 8 * (a + S) - J := ⟨_, rfl⟩
  obtain ⟨Z, hZ⟩ : ∃ Z, Z = padB ws J K := ⟨_, rfl⟩
  rw [← hJe, ← hKe, ← hZ]
  obtain ⟨T, hT⟩ : ∃ T, T = 8 * (a + S) := ⟨_, rfl⟩
  have eJ : 8 * ((a : Int) + 1 + (P : Int)) + (n : Int) = (J : Int) := by omega
  have eT : 8 * ((a : Int) + (S : Int)) = (T : Int) := by omega
  have f1 : (a : Int) ≤ 100000 := by omega
  have f2 : (P : Int) ≤ 64 := by omega
  have f3 : (n : Int) ≤ 1024 := by omega
  have f4 : (S : Int) ≤ 1000 := by omega
  have f5 : (J : Int) ≤ 1000000 := by omega
  have f6 : (T : Int) ≤ 1000000 := by omega
  have HF := Lib.hid (show J ≤ T ∧ K = T - J ∧ Z = padB ws J K ∧ T ≤ 8 * ws.length from ⟨by omega, by omega, hZ, by omega⟩)
  have HSz := Lib.hid (fun W => rsize_c (P : Int) (n : Int) false 0 W)
  rw [hS] at HSz
  have HBy := Lib.hid (fun W (hr : Rd u64v W W.heap.size A ws) (i : Nat) (hi : i < 8 * ws.length) => rbyte_c W A c ws hr hl i hi)
  obtain ⟨L, hL⟩ : ∃ L, L = ws.length := ⟨_, rfl⟩
  have hb0 := Gw.alloc w (.cells #[.int .i64 P, .int .i64 n, .bool false, .int .i64 0] 112)
  have hp0 := (p.below hb0)
  have hk0 := (Bk.new w 112 #[.int .i64 P, .int .i64 n, .bool false, .int .i64 0])
  rw [← hL] at HBy
  clear p hl hP hn hS hS2 ha hJ hJe hKe hZ hT
  go_enter Try.func67, Try.ntmps67
  go_wp2_with fail
  obtain ⟨W0, hW0⟩ : ∃ W0, W0 = (w.alloc (.cells #[.int .i64 P, .int .i64 n, .bool false, .int .i64 0] 112)) := ⟨_, rfl⟩
  obtain ⟨h, hh⟩ : ∃ h, h = w.heap.size := ⟨_, rfl⟩
  have H0 := Lib.hid (show RefAt W0 R A c ws b t e ∧ Bk W0 h 112 #[.int .i64 P, .int .i64 n, .bool false, .int .i64 0] ∧ Below w.heap.size w W0 ∧ L = ws.length from by rw [hW0, hh]; exact ⟨hp0, hk0, hb0, hL⟩)
  rw [← hW0, ← hh]
  clear hW0 hh hb0 hp0 hk0 hL
  go_loopw [8] (fun i W => ∃ j : Nat, i = .int .i64 j ∧ J ≤ j ∧ j ≤ T ∧ Hid ((bytesM ws J (j - J)).all (· == 0#8) = true) ∧ Hid (Below W0.heap.size W0 W)) (fun i _ => T - (Go.RowKit.intOf i).toNat)
  case atStart => exact ⟨J, rfl, Nat.le_refl _, HF.out.1, Lib.hid (by rw [Nat.sub_self]; rfl), Lib.hid (Below.refl _ _)⟩
  case round =>
    obtain ⟨j, rfl, hj1, hj2, hS, hB⟩ := hrel
    obtain ⟨c0, c1, c2, c3⟩ := (H0.out.2.1.below hB.out H0.out.2.1.lt).four
    have q0 : (0 : Int) ≤ (j : Int) := by omega
    go_wp2_with fail
    refine Calls.mono (HSz.out _) ?_
    rintro r w1 ⟨rfl, b1⟩
    have H1 := Lib.hid (show Below W0.heap.size W0 w1 from hB.out.trans (b1.mono hB.out.size))
    clear b1 c0 c1 c2 c3 hB
    by_cases hlt : j < T
    · have q1 : (j : Int) < (T : Int) := by omega
      obtain ⟨y, hy⟩ : ∃ y, y = byteAt ws j := ⟨_, rfl⟩
      have hp1 := H0.out.1.below H1.out
      have HBj := Lib.hid (HBy.out w1 hp1.rd j (by have h1 := HF.out.2.2.2; have h2 := H0.out.2.2.2; omega))
      rw [← hy] at HBj
      obtain ⟨d0, _⟩ := hp1.four
      rw [← H0.out.2.2.2] at d0
      clear hp1
      by_cases hz : y = 0#8
      · subst hz
        have HX := Lib.hid (show (bytesM ws J (j + 1 - J)).all (· == 0#8) = true from by
          rw [show j + 1 - J = j - J + 1 from by omega]
          exact pad_step ws J (j - J) hS.out (by rw [show J + (j - J) = j from by omega]; exact hy.symm))
        go_wp2_with fail
        refine Calls.mono HBj.out ?_
        rintro r w2 ⟨rfl, b2⟩
        have HB2 := Lib.hid (show Below W0.heap.size W0 w2 from H1.out.trans (b2.mono H1.out.size))
        have u0 : U8 0#8 = 0 := rfl
        rw [u0]
        clear b2 d0 hS
        go_wp2_with fail
        go_roundw
        case rel => first | exact ⟨j + 1, by go_num, by omega, by omega, HX, HB2⟩ | ((repeat apply Exists.intro); refine ⟨?_, rfl⟩; exact ⟨j + 1, by go_num, by omega, by omega, HX, HB2⟩)
        case measure => simp [Go.RowKit.intOf]; omega
      · have hZf := Lib.hid (show Z = false from by
          rw [HF.out.2.2.1]
          exact pad_no ws J (j - J) K (by have := HF.out.2.1; omega) (by rw [show J + (j - J) = j from by omega, ← hy]; exact hz))
        have u1 : U8 y ≠ 0 := by
          intro e
          refine hz (BitVec.eq_of_toNat_eq ?_)
          unfold U8 at e
          simpa using e
        obtain ⟨z, hzz⟩ : ∃ z, z = U8 y := ⟨_, rfl⟩
        rw [← hzz] at HBj u1
        clear hS hy hz hzz
        go_wp2_with fail
        refine Calls.mono HBj.out ?_
        rintro r w2 ⟨rfl, b2⟩
        have HB2 := Lib.hid (H0.out.2.2.1.trans ((H1.out.trans (b2.mono H1.out.size)).mono H0.out.2.2.1.size))
        clear b2 d0
        go_wp2_with fail
        go_ret
        exact ⟨by rw [hZf.out]; rfl, HB2.out⟩
    · have hTj : T = j := by omega
      have hZt := Lib.hid (show Z = true from by
        rw [HF.out.2.2.1, HF.out.2.1, hTj]
        exact hS.out)
      have HB2 := Lib.hid (H0.out.2.2.1.trans (H1.out.mono H0.out.2.2.1.size))
      clear hS hlt hj2
      subst hTj
      go_wp2_with fail
      go_ret
      exact ⟨by rw [hZt.out]; rfl, HB2.out⟩
end Go.Proofs.Ytbanbpphadgoiaa
/- The reference's copier: where an object went; may these be roots. Conditions: lengths. -/
namespace Go.Proofs.Ytbanbpphadgoiaa
set_option linter.unusedVariables false
set_option linter.unusedSimpArgs false
open Go.RowKit Go.Maps
set_option maxHeartbeats 1000000
set_option maxRecDepth 100000
/-- Where an object went, by the pairs (from, to); -1: nowhere. -/
def wentV : List (Nat × Nat) → Int → Int
  | [], _ => -1
  | p :: r, x => if (p.1 : Int) = x then (p.2 : Int) else wentV r x
theorem went_c (w : World) (X : Nat) (A1 A2 : Option Addr) (c1 c2 : Nat) (us : List (Nat × Nat)) (h2 : w.cell? ⟨X, 2, none⟩ = some (.slice A1 us.length c1)) (h3 : w.cell? ⟨X, 3, none⟩ = some (.slice A2 us.length c2)) (hX : X < w.heap.size) (r1 : Rd iN w w.heap.size A1 (us.map Prod.fst)) (r2 : Rd iN w w.heap.size A2 (us.map Prod.snd)) (hl : us.length ≤ 100000) (x : Int) :
    Calls Try.prog 69 #[.pointer (some ⟨X, 0, none⟩), .int .i64 x] w (RetP (.int .i64 (wentV us x)) w) := by
  obtain ⟨R, hR⟩ : ∃ R, R = wentV us x := ⟨_, rfl⟩
  rw [← hR]
  have HR := Lib.hid (show wentV (us.drop 0) x = R from hR.symm)
  obtain ⟨N, hN⟩ : ∃ N, N = us.length := ⟨_, rfl⟩
  have HN := Lib.hid hN
  have H1 := Lib.hid (And.intro r1 r2)
  rw [← hN] at h2 h3
  have hNm : (N : Int) ≤ 100000 := by omega
  clear hN r1 r2 hl hR
  go_enter Try.func69, Try.ntmps69
  go_wp2_with fail
  go_loopw [5] (fun v wr => ∃ i : Nat, v = .int .i64 i ∧ i ≤ N ∧ Hid (Below w.heap.size w wr ∧ wentV (us.drop i) x = R)) (fun v _ => N - (Go.RowKit.intOf v).toNat)
  case atStart => exact ⟨0, rfl, Nat.zero_le _, Lib.hid ⟨Below.refl _ _, HR.out⟩⟩
  case round =>
    obtain ⟨i, rfl, hi, hS⟩ := hrel
    have k2 := (hS.out.1.cell (p := ⟨X, 2, none⟩) hX).trans h2
    have k3 := (hS.out.1.cell (p := ⟨X, 3, none⟩) hX).trans h3
    have p0 : (0 : Int) ≤ (i : Int) := by omega
    by_cases hlt : i < N
    · have p1 : (i : Int) < (N : Int) := by omega
      have hiu : i < us.length := by rw [← HN.out]; exact hlt
      obtain ⟨a1, rfl, _, e1⟩ := (H1.out.1.below hS.out.1) i (by rw [List.length_map]; exact hiu)
      obtain ⟨a2, rfl, _, e2⟩ := (H1.out.2.below hS.out.1) i (by rw [List.length_map]; exact hiu)
      rw [List.getElem_map] at e1 e2
      obtain ⟨a, ha⟩ : ∃ a, a = us[i].1 := ⟨_, rfl⟩
      obtain ⟨u, hu⟩ : ∃ u, u = us[i].2 := ⟨_, rfl⟩
      rw [← ha] at e1
      rw [← hu] at e2
      unfold iN at e1 e2
      have hd : us.drop i = us[i] :: us.drop (i + 1) := List.drop_eq_getElem_cons hiu
      have hw := hS.out.2
      rw [hd] at hw
      unfold wentV at hw
      rw [← ha, ← hu] at hw
      have hb := Lib.hid hS.out.1
      by_cases hx : (a : Int) = x
      · rw [if_pos hx] at hw
        have HW := Lib.hid hw
        clear hw hd ha hu hS
        go_wp2_with fail
        go_ret
        rw [← HW.out]
        exact ⟨rfl, hb.out⟩
      · rw [if_neg hx] at hw
        have H2 := Lib.hid (And.intro hb.out hw)
        clear hw hd ha hu hS
        go_wp2_with fail
        go_roundw
        case rel => first | exact ⟨i + 1, by go_num, by omega, H2⟩ | ((repeat apply Exists.intro); refine ⟨?_, rfl⟩; exact ⟨i + 1, by go_num, by omega, H2⟩)
        case measure => simp [Go.RowKit.intOf]; omega
    · have p1 : ¬ (i : Int) < (N : Int) := by omega
      have hw := hS.out.2
      rw [List.drop_of_length_le (by rw [← HN.out]; omega)] at hw
      have HW := Lib.hid (show (-1 : Int) = R from hw)
      clear hw
      go_wp2_with fail
      go_ret
      rw [← HW.out]
      exact ⟨rfl, hS.out.1⟩
/-- May these be roots? -/
theorem rroots_c (w : World) (R : Nat) (A : Option Addr) (c : Nat) (ws : List (BitVec 64)) (b t e : Nat) (p : RefAt w R A c ws b t e) (hbt : b ≤ t) (htw : t ≤ ws.length) (hl : ws.length ≤ 8192) (l : List Nat) (ho : objF ws t (t + 1) b = some l) (A2 : Option Addr) (roots : List Int) (c2 : Nat) (hr : Rd zV w w.heap.size A2 roots) (hrl : roots.length ≤ 100000) :
    Calls Try.prog 35 #[.pointer (some ⟨R, 0, none⟩), .slice A2 roots.length c2] w (RetP (.bool (roots.all (rootB l))) w) := by
  have HO := Lib.hid (robjects_c w R A c ws b t e p hbt htw (by omega))
  rw [ho] at HO
  obtain ⟨Z, hZ⟩ : ∃ Z, Z = roots.all (rootB l) := ⟨_, rfl⟩
  rw [← hZ]
  have HZ := Lib.hid (show (roots.drop 0).all (rootB l) = Z from hZ.symm)
  obtain ⟨N, hN⟩ : ∃ N, N = roots.length := ⟨_, rfl⟩
  have HN := Lib.hid hN
  have HRd := Lib.hid hr
  have hll := objF_len _ _ _ ho
  rw [← hN]
  have hNm : (N : Int) ≤ 100000 := by omega
  have HL := Lib.hid (show l.length ≤ 100000 by omega)
  clear p hbt htw hl ho hr hrl hZ hN hll
  go_enter Try.func35, Try.ntmps35
  go_wp2_with fail
  refine Calls.mono HO.out ?_
  rintro r w1 hk
  obtain ⟨Al, cl, rfl, _, hol, b1⟩ := hk
  have HB1 := Lib.hid b1
  have HAm := Lib.hid (fun W (hb : Below w1.heap.size w1 W) x => among_c W Al cl l ((hol.rd.below hb).more hb.size) HL.out x)
  obtain ⟨LL, hLL⟩ : ∃ LL, LL = l.length := ⟨_, rfl⟩
  rw [← hLL] at HAm ⊢
  have HZ1 := Lib.hid (Below.refl w1.heap.size w1)
  clear hol b1 hLL HO
  go_wp2_with fail
  go_loopw [7] (fun v wr => ∃ i : Nat, v = .int .i64 i ∧ i ≤ N ∧ Hid (Below w1.heap.size w1 wr ∧ (roots.drop i).all (rootB l) = Z)) (fun v _ => N - (Go.RowKit.intOf v).toNat)
  case atStart => exact ⟨0, rfl, Nat.zero_le _, Lib.hid ⟨HZ1.out, HZ.out⟩⟩
  case round =>
    obtain ⟨i, rfl, hi, hS⟩ := hrel
    have p0 : (0 : Int) ≤ (i : Int) := by omega
    by_cases hlt : i < N
    · have p1 : (i : Int) < (N : Int) := by omega
      have hiu : i < roots.length := by rw [← HN.out]; exact hlt
      obtain ⟨a2, rfl, _, e2⟩ := (HRd.out.below (HB1.out.trans (hS.out.1.mono HB1.out.size))) i hiu
      obtain ⟨x, hx⟩ : ∃ x, x = roots[i] := ⟨_, rfl⟩
      rw [← hx] at e2
      unfold zV at e2
      have hd : roots.drop i = roots[i] :: roots.drop (i + 1) := List.drop_eq_getElem_cons hiu
      have hw := hS.out.2
      rw [hd, ← hx, List.all_cons] at hw
      have hb := Lib.hid hS.out.1
      by_cases h1 : x = -1
      · have hrb : rootB l x = true := by unfold rootB; exact decide_eq_true (.inl h1)
        rw [hrb, Bool.true_and] at hw
        have H2 := Lib.hid (And.intro hb.out hw)
        clear hw hd hx hS hrb
        subst h1
        go_wp2_with fail
        go_roundw
        case rel => first | exact ⟨i + 1, by go_num, by omega, H2⟩ | ((repeat apply Exists.intro); refine ⟨?_, rfl⟩; exact ⟨i + 1, by go_num, by omega, H2⟩)
        case measure => simp [Go.RowKit.intOf]; omega
      · by_cases h2 : ∃ y ∈ l, (y : Int) = x
        · have hrb : rootB l x = true := by unfold rootB; exact decide_eq_true (.inr h2)
          rw [hrb, Bool.true_and] at hw
          have HA := Lib.hid (HAm.out wr hb.out x)
          rw [decide_eq_true h2] at HA
          have HW := Lib.hid hw
          clear hw hd hx hS hrb h2
          go_wp2_with fail
          refine Calls.mono HA.out ?_
          rintro r w3 ⟨rfl, b3⟩
          have H3 := Lib.hid (And.intro (hb.out.trans (b3.mono hb.out.size)) HW.out)
          clear b3
          go_wp2_with fail
          go_roundw
          case rel => first | exact ⟨i + 1, by go_num, by omega, H3⟩ | ((repeat apply Exists.intro); refine ⟨?_, rfl⟩; exact ⟨i + 1, by go_num, by omega, H3⟩)
          case measure => simp [Go.RowKit.intOf]; omega
        · have hrb : rootB l x = false := by
            unfold rootB
            exact decide_eq_false (fun h => h.elim h1 h2)
          rw [hrb, Bool.false_and] at hw
          have HA := Lib.hid (HAm.out wr hb.out x)
          rw [decide_eq_false h2] at HA
          have HW := Lib.hid hw
          clear hw hd hx hS hrb h2
          go_wp2_with fail
          refine Calls.mono HA.out ?_
          rintro r w3 ⟨rfl, b3⟩
          have H3 := Lib.hid (HB1.out.trans ((hb.out.trans (b3.mono hb.out.size)).mono HB1.out.size))
          clear b3
          go_wp2_with fail
          go_ret
          rw [← HW.out]
          exact ⟨rfl, H3.out⟩
    · have p1 : ¬ (i : Int) < (N : Int) := by omega
      have hw := hS.out.2
      rw [List.drop_of_length_le (by rw [← HN.out]; omega)] at hw
      have HW := Lib.hid (show true = Z from hw)
      clear hw
      go_wp2_with fail
      go_ret
      rw [← HW.out]
      exact ⟨rfl, HB1.out.trans (hS.out.1.mono HB1.out.size)⟩
end Go.Proofs.Ytbanbpphadgoiaa
/- The reference's copier in memory; Start. Conditions: lengths. -/
namespace Go.Proofs.Ytbanbpphadgoiaa
set_option linter.unusedVariables false
set_option linter.unusedSimpArgs false
open Go.RowKit Go.Maps
set_option maxHeartbeats 1000000
set_option maxRecDepth 100000
/-- A copier of the reference: the source's words ws, the new words T, what went where. -/
structure RcAt (W : World) (B X R N : Nat) (rA : Option Addr) (rc : Nat) (nA : Option Addr) (nc : Nat) (fv tv : Value) (ws : List (BitVec 64)) (b t e : Nat) (T : List (BitVec 64)) (top : Nat) (us : List (Nat × Nat)) (scan : Nat) (full : Bool) : Prop where
  src : RefAt W R rA rc ws b t e
  RB : R < B
  rB : ∀ ad, rA = some ad → ws ≠ [] → ad.block < B
  blk : Bk W X 49 #[.pointer (some ⟨R, 0, none⟩), .pointer (some ⟨N, 0, none⟩), fv, tv, .int .i64 scan, .bool full]
  nw : Bk W N 30 #[.slice nA T.length nc, .int .i64 0, .int .i64 top, .int .i64 T.length]
  row : Ow u64v 62 W B (.slice nA T.length nc) T
  fr : Ow iN 3 W B fv (us.map Prod.fst)
  to_ : Ow iN 3 W B tv (us.map Prod.snd)
  XN : X ≠ N ∧ B ≤ X ∧ B ≤ N
  ap : ∀ k, (k = X ∨ k = N) → (Value.slice nA T.length nc).ownBlock ≠ some k ∧ fv.ownBlock ≠ some k ∧ tv.ownBlock ≠ some k
  ap2 : ∀ k, fv.ownBlock = some k → tv.ownBlock ≠ some k ∧ (Value.slice nA T.length nc).ownBlock ≠ some k
  ap3 : ∀ k, tv.ownBlock = some k → (Value.slice nA T.length nc).ownBlock ≠ some k
theorem RcAt.below {W W' : World} {B X R N : Nat} {rA : Option Addr} {rc : Nat} {nA : Option Addr} {nc : Nat} {fv tv : Value} {ws : List (BitVec 64)} {b t e : Nat} {T : List (BitVec 64)} {top : Nat} {us : List (Nat × Nat)} {scan : Nat} {full : Bool} (h : RcAt W B X R N rA rc nA nc fv tv ws b t e T top us scan full) (hb : Below W.heap.size W W') : RcAt W' B X R N rA rc nA nc fv tv ws b t e T top us scan full :=
  ⟨h.src.below hb, h.RB, h.rB, h.blk.below hb h.blk.lt, h.nw.below hb h.nw.lt, h.row.below hb, h.fr.below hb, h.to_.below hb, h.XN, h.ap, h.ap2, h.ap3⟩
theorem rstart_c (w : World) (R : Nat) (rA : Option Addr) (rc : Nat) (ws : List (BitVec 64)) (b t e : Nat) (p : RefAt w R rA rc ws b t e) (m : Nat) (hm : m ≤ 8192) :
    Calls Try.prog 12 #[.pointer (some ⟨R, 0, none⟩), .int .i64 m] w fun r w' => ∃ X N q, r = .returned (.pointer (some ⟨X, 0, none⟩)) ∧ RcAt w' w.heap.size X R N rA rc (some ⟨q, 0, none⟩) m (.slice none 0 0) (.slice none 0 0) ws b t e (List.replicate m 0#64) 0 [] 0 false ∧ Below w.heap.size w w' := by
  have HP := Lib.hid p
  have m8 : (m : Int) ≤ 8192 := by omega
  have m0 : (0 : Int) ≤ (m : Int) := by omega
  clear p
  go_enter Try.func12, Try.ntmps12
  go_wp2_with (at_make; refine wp_make (f := u64v) one64 rfl _ _ rfl 0#64 rfl w.heap.size m _ _ _ _ rfl rfl rfl rfl (by omega) (by decide) (Nat.le_refl _) ?_; rintro q w3 hq ho3 hb3 _; have H3 := Lib.hid (And.intro ho3 hb3); have HQ := Lib.hid hq; clear hq ho3 hb3)
  go_ret
  have k1 := Gw.alloc w3 (.cells #[.slice (some ⟨q, 0, none⟩) m m, .int .i64 0, .int .i64 0, .int .i64 m] 30)
  have k2 := Gw.alloc (w3.alloc (.cells #[.slice (some ⟨q, 0, none⟩) m m, .int .i64 0, .int .i64 0, .int .i64 m] 30)) (.cells #[.pointer (some ⟨R, 0, none⟩), .pointer (some ⟨w3.heap.size, 0, none⟩), .slice none 0 0, .slice none 0 0, .int .i64 0, .bool false] 49)
  have hn := Bk.new w3 30 #[.slice (some ⟨q, 0, none⟩) m m, .int .i64 0, .int .i64 0, .int .i64 m]
  have hx := Bk.new (w3.alloc (.cells #[.slice (some ⟨q, 0, none⟩) m m, .int .i64 0, .int .i64 0, .int .i64 m] 30)) 49 #[.pointer (some ⟨R, 0, none⟩), .pointer (some ⟨w3.heap.size, 0, none⟩), .slice none 0 0, .slice none 0 0, .int .i64 0, .bool false]
  have e1 : (w3.alloc (.cells #[.slice (some ⟨q, 0, none⟩) m m, .int .i64 0, .int .i64 0, .int .i64 m] 30)).heap.size = w3.heap.size + 1 := by unfold World.alloc; simp
  rw [e1] at hx
  have hq3 := H3.out.1.lt q rfl
  have hlen : (List.replicate m 0#64).length = m := by simp
  have hs3 := H3.out.2.size
  refine ⟨w3.heap.size + 1, w3.heap.size, q, rfl, ⟨(HP.out.below H3.out.2).below k1 |>.below k2, HP.out.blk.lt, fun ad had hne => ?_, hx, ?_, ?_, Ow.nil_ _ _ _ _, Ow.nil_ _ _ _ _, ⟨by omega, by omega, hs3⟩, ?_, fun k hk => by (cases hk), fun k hk => by (cases hk)⟩, (H3.out.2.alloc hs3 _).alloc (by rw [e1]; omega) _⟩
  · cases hws : ws with
    | nil => exact absurd hws hne
    | cons x xs =>
      obtain ⟨a2, ha2, hlt, _⟩ := HP.out.rd 0 (by rw [hws]; simp)
      rw [had] at ha2
      injection ha2 with ha2
      subst ha2
      exact hlt
  · rw [hlen]; exact hn.below k2 hn.lt
  · have := (H3.out.1.below k1).below k2
    rw [hlen]; exact this
  · rintro k hk
    refine ⟨fun h => ?_, (fun h => by cases h), (fun h => by cases h)⟩
    have h2 : q = k := by injection h
    rcases hk with hk | hk <;> omega
end Go.Proofs.Ytbanbpphadgoiaa
/- The reference's copier: Move, where nothing is taken. Conditions: lengths. -/
namespace Go.Proofs.Ytbanbpphadgoiaa
set_option linter.unusedVariables false
set_option linter.unusedSimpArgs false
open Go.RowKit Go.Maps
set_option maxHeartbeats 1000000
set_option maxRecDepth 100000
theorem rm7 (Q : Exit → Act → World → Prop) (a0 : Act) (w : World) (X N H : Nat) (G : Nat → Prop) (P n u er : Int) (K : World → Prop) (hX : X < w.heap.size) (hXn : ¬ G X) (hH : H < w.heap.size) (hHn : ¬ G H) (x1 : w.cell? ⟨X, 1, none⟩ = some (.pointer (some ⟨N, 0, none⟩))) (g0 : w.cell? ⟨H, 0, none⟩ = some (.int .i64 P)) (g1 : w.cell? ⟨H, 1, none⟩ = some (.int .i64 n)) (g2 : w.cell? ⟨H, 2, none⟩ = some (.bool false)) (g3 : w.cell? ⟨H, 3, none⟩ = some (.int .i64 0)) (hK : ∀ a b, K a → Gw a b → K b) (hp : Hid (∀ W, Below w.heap.size w W → Calls Try.prog 70 #[.pointer (some ⟨N, 0, none⟩), .agg #[.int .i64 P, .int .i64 n, .bool false, .int .i64 0]] W (fun e w2 => ∃ v, e = .returned v ∧ Kept G W w2 ∧ AndV (.tuple #[.int .i64 u, .int .i64 er]) K v w2))) (hsz : a0.tmps.size = 113) (sl0 : a0.tmps.getD 0 undef = .pointer (some ⟨X, 0, none⟩)) (sl6 : a0.tmps.getD 6 undef = .pointer (some ⟨H, 0, none⟩))
    (fin : ∀ (vals : Nat → Value) (w1 : World), Kept G w w1 → (IsV (.int .i64 u)) (vals 9) w1 → (IsV (.int .i64 er)) (vals 10) w1 → (AndV (.tuple #[.int .i64 u, .int .i64 er]) K) (vals 5) w1 → Q .normal (putO vals [some 40, some 41, some 42, some 43, some 44, some 45, some 39, some 46, some 47, some 5, some 8] 0 a0) w1) :
    (Code.region 7 (regIn Try.f36 7) true).wp Try.prog Q a0 w := by
  have hGs : ∀ (j : Nat) (v : Value) (w3 : World), (srcOf [] j = j → (([IsV (.pointer (some ⟨X, 0, none⟩)), IsV (.pointer (some ⟨X, 0, none⟩)), IsV (.pointer (some ⟨X, 1, none⟩)), IsV (.pointer (some ⟨N, 0, none⟩)), IsV (.agg #[.int .i64 P, .int .i64 n, .bool false, .int .i64 0]), AndV (.tuple #[.int .i64 u, .int .i64 er]) K, IsV (.tuple #[.int .i64 u, .int .i64 er]), IsV (.int .i64 u), IsV (.int .i64 er), IsV (.int .i64 u), IsV (.int .i64 er)] : List (Value → World → Prop)).getD j fun _ _ => True) v w3) → (([IsV (.pointer (some ⟨X, 0, none⟩)), IsV (.pointer (some ⟨X, 0, none⟩)), IsV (.pointer (some ⟨X, 1, none⟩)), IsV (.pointer (some ⟨N, 0, none⟩)), IsV (.agg #[.int .i64 P, .int .i64 n, .bool false, .int .i64 0]), AndV (.tuple #[.int .i64 u, .int .i64 er]) K, IsV (.tuple #[.int .i64 u, .int .i64 er]), IsV (.int .i64 u), IsV (.int .i64 er), IsV (.int .i64 u), IsV (.int .i64 er)] : List (Value → World → Prop)).getD j fun _ _ => True) v w3 := by
    intro j v w3 h
    match j, h with
    | 0, h => exact h rfl
    | 1, h => exact h rfl
    | 2, h => exact h rfl
    | 3, h => exact h rfl
    | 4, h => exact h rfl
    | 5, h => exact h rfl
    | 6, h => exact h rfl
    | 7, h => exact h rfl
    | 8, h => exact h rfl
    | 9, h => exact h rfl
    | 10, h => exact h rfl
    | _ + 11, _ => exact trivial
  refine region_byK [IsV (.pointer (some ⟨X, 0, none⟩)),
    IsV (.pointer (some ⟨X, 0, none⟩)),
    IsV (.pointer (some ⟨X, 1, none⟩)),
    IsV (.pointer (some ⟨N, 0, none⟩)),
    IsV (.agg #[.int .i64 P, .int .i64 n, .bool false, .int .i64 0]),
    AndV (.tuple #[.int .i64 u, .int .i64 er]) K,
    IsV (.tuple #[.int .i64 u, .int .i64 er]),
    IsV (.int .i64 u),
    IsV (.int .i64 er),
    IsV (.int .i64 u),
    IsV (.int .i64 er)] [(5, fun w w1 => Kept G w w1)] []
    [some 40, some 41, some 42, some 43, some 44, some 45, some 39, some 46, some 47, some 5, some 8] (fun w1 => Kept G w w1) (by kernel_rfl) (Kept.of_below (Gw.drew _) _) (fun _ _ h g => h.trans (Kept.of_below g _)) 5 (fun w1 => Below w.heap.size w w1) (Gw.drew _) (fun _ _ h g => h.trans (Below.mono g h.size)) (by intro p hp; simp only [List.mem_cons, List.not_mem_nil, or_false] at hp; subst hp; rfl) (by rw [hsz]; kernel_rfl) (by kernel_rfl) (by kernel_rfl) ?_ ?_ ?_ ?_
  · intro f hf
    simp only [List.mem_cons, List.not_mem_nil, or_false] at hf
    rcases hf with rfl | rfl | rfl | rfl | rfl | rfl | rfl | rfl | rfl | rfl | rfl <;> intro v a b h g <;> first | exact IsV.mono h | exact BoxV.mono h g | exact BoxC.mono h g | exact AndV.mono hK h g
  · intro p hp
    simp only [List.mem_cons, List.not_mem_nil, or_false] at hp
    rcases hp with rfl
    · refine ⟨fun a b h1 h2 => h1.trans h2, ?_⟩
      intro f hf
      simp only [List.eraseIdx_cons_succ, List.eraseIdx_cons_zero, List.mem_cons, List.not_mem_nil, or_false] at hf
      rcases hf with rfl | rfl | rfl | rfl | rfl | rfl | rfl | rfl | rfl | rfl <;> intro v a b h g <;> exact h
  · refine ⟨?_, ?_, ?_, ?_, ?_, ?_, ?_, ?_, ?_, ?_, ?_, trivial⟩
    · refine OwesG.mk2 (D := Gw) (F' := fun j => ([IsV (.pointer (some ⟨X, 0, none⟩)), IsV (.pointer (some ⟨X, 0, none⟩)), IsV (.pointer (some ⟨X, 1, none⟩)), IsV (.pointer (some ⟨N, 0, none⟩)), IsV (.agg #[.int .i64 P, .int .i64 n, .bool false, .int .i64 0]), AndV (.tuple #[.int .i64 u, .int .i64 er]) K, IsV (.tuple #[.int .i64 u, .int .i64 er]), IsV (.int .i64 u), IsV (.int .i64 er), IsV (.int .i64 u), IsV (.int .i64 er)] : List (Value → World → Prop)).getD j fun _ _ => True) rfl hGs (fun v w h => h) ?_
      exact owes_mvD gw_self 0 (by kernel_rfl) (by kernel_rfl) (by kernel_rfl) sl0 (fun _ => rfl)
    · refine OwesG.mk2 (D := Gw) (F' := fun j => ([IsV (.pointer (some ⟨X, 0, none⟩)), IsV (.pointer (some ⟨X, 0, none⟩)), IsV (.pointer (some ⟨X, 1, none⟩)), IsV (.pointer (some ⟨N, 0, none⟩)), IsV (.agg #[.int .i64 P, .int .i64 n, .bool false, .int .i64 0]), AndV (.tuple #[.int .i64 u, .int .i64 er]) K, IsV (.tuple #[.int .i64 u, .int .i64 er]), IsV (.int .i64 u), IsV (.int .i64 er), IsV (.int .i64 u), IsV (.int .i64 er)] : List (Value → World → Prop)).getD j fun _ _ => True) rfl hGs (fun v w h => h) ?_
      refine owes_vD (Go.Op.nilCheck (Go.Operand.tmp 40)) 0 [0] (by kernel_rfl) (by kernel_rfl) (by kernel_rfl) rfl fun vals w1 ρ hG hF hρ hcst hfun => ?_
      have e40 : ρ (.tmp 40) = .pointer (some ⟨X, 0, none⟩) := ((hρ 40).trans (slotJ [0] (by rw [hsz]; decide) (by kernel_rfl))).trans (hF 0 (by decide))
      obtain ⟨hG, _⟩ := hG
      clear hρ hF hGs hcst hfun sl0 sl6 fin
      exact opv_val (by go_simp <;> rfl) ⟨gw_self _, rfl⟩
    · refine OwesG.mk2 (D := Gw) (F' := fun j => ([IsV (.pointer (some ⟨X, 0, none⟩)), IsV (.pointer (some ⟨X, 0, none⟩)), IsV (.pointer (some ⟨X, 1, none⟩)), IsV (.pointer (some ⟨N, 0, none⟩)), IsV (.agg #[.int .i64 P, .int .i64 n, .bool false, .int .i64 0]), AndV (.tuple #[.int .i64 u, .int .i64 er]) K, IsV (.tuple #[.int .i64 u, .int .i64 er]), IsV (.int .i64 u), IsV (.int .i64 er), IsV (.int .i64 u), IsV (.int .i64 er)] : List (Value → World → Prop)).getD j fun _ _ => True) rfl hGs (fun v w h => h) ?_
      refine owes_vD (Go.Op.fieldAddr 49 (Go.Operand.tmp 41) 1) 0 [1] (by kernel_rfl) (by kernel_rfl) (by kernel_rfl) rfl fun vals w1 ρ hG hF hρ hcst hfun => ?_
      have e41 : ρ (.tmp 41) = .pointer (some ⟨X, 0, none⟩) := ((hρ 41).trans (slotJ [1] (by rw [hsz]; decide) (by kernel_rfl))).trans (hF 1 (by decide))
      obtain ⟨hG, _⟩ := hG
      clear hρ hF hGs hcst hfun sl0 sl6 fin
      exact opv_val (by go_simp <;> rfl) ⟨gw_self _, rfl⟩
    · refine OwesG.mk2 (D := Gw) (F' := fun j => ([IsV (.pointer (some ⟨X, 0, none⟩)), IsV (.pointer (some ⟨X, 0, none⟩)), IsV (.pointer (some ⟨X, 1, none⟩)), IsV (.pointer (some ⟨N, 0, none⟩)), IsV (.agg #[.int .i64 P, .int .i64 n, .bool false, .int .i64 0]), AndV (.tuple #[.int .i64 u, .int .i64 er]) K, IsV (.tuple #[.int .i64 u, .int .i64 er]), IsV (.int .i64 u), IsV (.int .i64 er), IsV (.int .i64 u), IsV (.int .i64 er)] : List (Value → World → Prop)).getD j fun _ _ => True) rfl hGs (fun v w h => h) ?_
      refine owes_vD (Go.Op.load 28 (Go.Operand.tmp 42)) 28 [2] (by kernel_rfl) (by kernel_rfl) (by kernel_rfl) rfl fun vals w1 ρ hG hF hρ hcst hfun => ?_
      have e42 : ρ (.tmp 42) = .pointer (some ⟨X, 1, none⟩) := ((hρ 42).trans (slotJ [2] (by rw [hsz]; decide) (by kernel_rfl))).trans (hF 2 (by decide))
      obtain ⟨hG, _⟩ := hG
      have k := (hG.cell (p := ⟨X, 1, none⟩) hX hXn).trans x1
      clear hρ hF hGs hcst hfun sl0 sl6 fin
      exact opv_val (by go_simp <;> rfl) ⟨gw_self _, rfl⟩
    · refine OwesG.mk2 (D := Gw) (F' := fun j => ([IsV (.pointer (some ⟨X, 0, none⟩)), IsV (.pointer (some ⟨X, 0, none⟩)), IsV (.pointer (some ⟨X, 1, none⟩)), IsV (.pointer (some ⟨N, 0, none⟩)), IsV (.agg #[.int .i64 P, .int .i64 n, .bool false, .int .i64 0]), AndV (.tuple #[.int .i64 u, .int .i64 er]) K, IsV (.tuple #[.int .i64 u, .int .i64 er]), IsV (.int .i64 u), IsV (.int .i64 er), IsV (.int .i64 u), IsV (.int .i64 er)] : List (Value → World → Prop)).getD j fun _ _ => True) rfl hGs (fun v w h => h) ?_
      refine owes_vD (Go.Op.load 112 (Go.Operand.tmp 6)) 112 [] (by kernel_rfl) (by kernel_rfl) (by kernel_rfl) rfl fun vals w1 ρ hG hF hρ hcst hfun => ?_
      have e6 : ρ (.tmp 6) = .pointer (some ⟨H, 0, none⟩) := ((hρ 6).trans (slotO [] (by kernel_rfl))).trans sl6
      obtain ⟨hG, _⟩ := hG
      have k0 := (hG.cell (p := ⟨H, 0, none⟩) hH hHn).trans g0; have k1 := (hG.cell (p := ⟨H, 1, none⟩) hH hHn).trans g1; have k2 := (hG.cell (p := ⟨H, 2, none⟩) hH hHn).trans g2; have k3 := (hG.cell (p := ⟨H, 3, none⟩) hH hHn).trans g3
      clear hρ hF hGs hcst hfun sl0 sl6 fin
      exact opv_val (by go_simp <;> rfl) ⟨gw_self _, rfl⟩
    · refine OwesG.mk2 (D := fun w w1 => Kept G w w1) (F' := fun j => ([IsV (.pointer (some ⟨X, 0, none⟩)), IsV (.pointer (some ⟨X, 0, none⟩)), IsV (.pointer (some ⟨X, 1, none⟩)), IsV (.pointer (some ⟨N, 0, none⟩)), IsV (.agg #[.int .i64 P, .int .i64 n, .bool false, .int .i64 0]), AndV (.tuple #[.int .i64 u, .int .i64 er]) K, IsV (.tuple #[.int .i64 u, .int .i64 er]), IsV (.int .i64 u), IsV (.int .i64 er), IsV (.int .i64 u), IsV (.int .i64 er)] : List (Value → World → Prop)).getD j fun _ _ => True) rfl hGs (fun v w h => h) ?_
      refine owes_vD (Go.Op.call { callee := Go.Callee.value (Go.Operand.func 70), args := #[Go.Operand.tmp 43, Go.Operand.tmp 44], argTypes := #[28, 112] }) 118 [3, 4] (by kernel_rfl) (by kernel_rfl) (by kernel_rfl) rfl fun vals w1 ρ hG hF hρ hcst hfun => ?_
      have e43 : ρ (.tmp 43) = .pointer (some ⟨N, 0, none⟩) := ((hρ 43).trans (slotJ [3, 4] (by rw [hsz]; decide) (by kernel_rfl))).trans (hF 3 (by decide))
      have e44 : ρ (.tmp 44) = .agg #[.int .i64 P, .int .i64 n, .bool false, .int .i64 0] := ((hρ 44).trans (slotJ [3, 4] (by rw [hsz]; decide) (by kernel_rfl))).trans (hF 4 (by decide))
      obtain ⟨hG, hPre⟩ := hG; have hPre : Below w.heap.size w w1 := hPre
      clear hρ hF hGs hcst sl0 sl6 fin
      exact opv_enter (by go_simp <;> rfl) (hp.out w1 hPre)
    · refine OwesG.mk2 (D := Gw) (F' := fun j => ([IsV (.pointer (some ⟨X, 0, none⟩)), IsV (.pointer (some ⟨X, 0, none⟩)), IsV (.pointer (some ⟨X, 1, none⟩)), IsV (.pointer (some ⟨N, 0, none⟩)), IsV (.agg #[.int .i64 P, .int .i64 n, .bool false, .int .i64 0]), AndV (.tuple #[.int .i64 u, .int .i64 er]) K, IsV (.tuple #[.int .i64 u, .int .i64 er]), IsV (.int .i64 u), IsV (.int .i64 er), IsV (.int .i64 u), IsV (.int .i64 er)] : List (Value → World → Prop)).getD j fun _ _ => True) rfl hGs (fun v w h => h) ?_
      exact owes_mvjD gw_self 5 45 (by kernel_rfl) (by kernel_rfl) (by kernel_rfl) (by kernel_rfl) (by rw [hsz]; decide) (fun v w h => h.1)
    · refine OwesG.mk2 (D := Gw) (F' := fun j => ([IsV (.pointer (some ⟨X, 0, none⟩)), IsV (.pointer (some ⟨X, 0, none⟩)), IsV (.pointer (some ⟨X, 1, none⟩)), IsV (.pointer (some ⟨N, 0, none⟩)), IsV (.agg #[.int .i64 P, .int .i64 n, .bool false, .int .i64 0]), AndV (.tuple #[.int .i64 u, .int .i64 er]) K, IsV (.tuple #[.int .i64 u, .int .i64 er]), IsV (.int .i64 u), IsV (.int .i64 er), IsV (.int .i64 u), IsV (.int .i64 er)] : List (Value → World → Prop)).getD j fun _ _ => True) rfl hGs (fun v w h => h) ?_
      refine owes_vD (Go.Op.extract (Go.Operand.tmp 39) 0) 3 [6] (by kernel_rfl) (by kernel_rfl) (by kernel_rfl) rfl fun vals w1 ρ hG hF hρ hcst hfun => ?_
      have e39 : ρ (.tmp 39) = .tuple #[.int .i64 u, .int .i64 er] := ((hρ 39).trans (slotJ [6] (by rw [hsz]; decide) (by kernel_rfl))).trans (hF 6 (by decide))
      obtain ⟨hG, _⟩ := hG
      clear hρ hF hGs hcst hfun sl0 sl6 fin
      exact opv_val (by go_simp <;> rfl) ⟨gw_self _, rfl⟩
    · refine OwesG.mk2 (D := Gw) (F' := fun j => ([IsV (.pointer (some ⟨X, 0, none⟩)), IsV (.pointer (some ⟨X, 0, none⟩)), IsV (.pointer (some ⟨X, 1, none⟩)), IsV (.pointer (some ⟨N, 0, none⟩)), IsV (.agg #[.int .i64 P, .int .i64 n, .bool false, .int .i64 0]), AndV (.tuple #[.int .i64 u, .int .i64 er]) K, IsV (.tuple #[.int .i64 u, .int .i64 er]), IsV (.int .i64 u), IsV (.int .i64 er), IsV (.int .i64 u), IsV (.int .i64 er)] : List (Value → World → Prop)).getD j fun _ _ => True) rfl hGs (fun v w h => h) ?_
      refine owes_vD (Go.Op.extract (Go.Operand.tmp 39) 1) 3 [6] (by kernel_rfl) (by kernel_rfl) (by kernel_rfl) rfl fun vals w1 ρ hG hF hρ hcst hfun => ?_
      have e39 : ρ (.tmp 39) = .tuple #[.int .i64 u, .int .i64 er] := ((hρ 39).trans (slotJ [6] (by rw [hsz]; decide) (by kernel_rfl))).trans (hF 6 (by decide))
      obtain ⟨hG, _⟩ := hG
      clear hρ hF hGs hcst hfun sl0 sl6 fin
      exact opv_val (by go_simp <;> rfl) ⟨gw_self _, rfl⟩
    · refine OwesG.mk2 (D := Gw) (F' := fun j => ([IsV (.pointer (some ⟨X, 0, none⟩)), IsV (.pointer (some ⟨X, 0, none⟩)), IsV (.pointer (some ⟨X, 1, none⟩)), IsV (.pointer (some ⟨N, 0, none⟩)), IsV (.agg #[.int .i64 P, .int .i64 n, .bool false, .int .i64 0]), AndV (.tuple #[.int .i64 u, .int .i64 er]) K, IsV (.tuple #[.int .i64 u, .int .i64 er]), IsV (.int .i64 u), IsV (.int .i64 er), IsV (.int .i64 u), IsV (.int .i64 er)] : List (Value → World → Prop)).getD j fun _ _ => True) rfl hGs (fun v w h => h) ?_
      exact owes_mvjD gw_self 7 46 (by kernel_rfl) (by kernel_rfl) (by kernel_rfl) (by kernel_rfl) (by rw [hsz]; decide) (fun v w h => h)
    · refine OwesG.mk2 (D := Gw) (F' := fun j => ([IsV (.pointer (some ⟨X, 0, none⟩)), IsV (.pointer (some ⟨X, 0, none⟩)), IsV (.pointer (some ⟨X, 1, none⟩)), IsV (.pointer (some ⟨N, 0, none⟩)), IsV (.agg #[.int .i64 P, .int .i64 n, .bool false, .int .i64 0]), AndV (.tuple #[.int .i64 u, .int .i64 er]) K, IsV (.tuple #[.int .i64 u, .int .i64 er]), IsV (.int .i64 u), IsV (.int .i64 er), IsV (.int .i64 u), IsV (.int .i64 er)] : List (Value → World → Prop)).getD j fun _ _ => True) rfl hGs (fun v w h => h) ?_
      exact owes_mvjD gw_self 8 47 (by kernel_rfl) (by kernel_rfl) (by kernel_rfl) (by kernel_rfl) (by rw [hsz]; decide) (fun v w h => h)
  · intro vals w1 hG hF
    exact fin vals w1 hG (hF 9 (by decide +kernel)) (hF 10 (by decide +kernel)) (hF 5 (by decide +kernel))
section
variable {B X R N : Nat} {rA : Option Addr} {rc : Nat} {nA : Option Addr} {nc : Nat} {fv tv : Value} {ws : List (BitVec 64)} {b t e : Nat} {T : List (BitVec 64)} {top : Nat} {us : List (Nat × Nat)} {scan : Nat} {full : Bool}
theorem RcAt.went {w : World} (h : RcAt w B X R N rA rc nA nc fv tv ws b t e T top us scan full) (hl : us.length ≤ 100000) (x : Int) : Calls Try.prog 69 #[.pointer (some ⟨X, 0, none⟩), .int .i64 x] w (RetP (.int .i64 (wentV us x)) w) := by
  obtain ⟨A1, c1, e1, _⟩ := h.fr.form
  obtain ⟨A2, c2, e2, _⟩ := h.to_.form
  have hk := h.blk
  rw [e1, e2, List.length_map, List.length_map] at hk
  have r1 := h.fr
  rw [e1] at r1
  have r2 := h.to_
  rw [e2] at r2
  exact went_c w X A1 A2 c1 c2 us (hk.cell 2) (hk.cell 3) hk.lt r1.rd r2.rd hl x
theorem move_neg (w : World) (x : Int) (hx : x < 0) : Calls Try.prog 36 #[.pointer (some ⟨X, 0, none⟩), .int .i64 x] w (RetP (.int .i64 (-1)) w) := by
  go_enter Try.func36, Try.ntmps36
  go_wp2_with fail
  go_ret
  exact ⟨rfl, Below.refl _ _⟩
theorem move_went (w : World) (h : RcAt w B X R N rA rc nA nc fv tv ws b t e T top us scan full) (hl : us.length ≤ 100000) (a : Nat) (u : Nat) (hu : wentV us a = (u : Int)) : Calls Try.prog 36 #[.pointer (some ⟨X, 0, none⟩), .int .i64 (a : Int)] w (RetP (.int .i64 (u : Int)) w) := by
  have HW := Lib.hid (h.went hl a)
  rw [hu] at HW
  clear h hu
  have p0 : ¬ (a : Int) < 0 := by omega
  have p1 : (0 : Int) ≤ (u : Int) := by omega
  go_enter Try.func36, Try.ntmps36
  go_wp2_with fail
  refine Calls.mono HW.out ?_
  rintro r w2 ⟨rfl, b2⟩
  have H2 := Lib.hid b2
  clear b2
  go_wp2_with fail
  go_ret
  exact ⟨rfl, H2.out⟩
theorem move_full (w : World) (h : RcAt w B X R N rA rc nA nc fv tv ws b t e T top us scan true) (hl : us.length ≤ 100000) (a : Nat) (hu : wentV us a = -1) : Calls Try.prog 36 #[.pointer (some ⟨X, 0, none⟩), .int .i64 (a : Int)] w (RetP (.int .i64 (-1)) w) := by
  have HW := Lib.hid (h.went hl a)
  rw [hu] at HW
  have c5 := h.blk.cell 5
  have hX := h.blk.lt
  clear h hu
  have p0 : ¬ (a : Int) < 0 := by omega
  go_enter Try.func36, Try.ntmps36
  go_wp2_with fail
  refine Calls.mono HW.out ?_
  rintro r w2 ⟨rfl, b2⟩
  have H2 := Lib.hid b2
  have c5 : w2.cell? ⟨X, 5, none⟩ = some (.bool true) := (b2.cell (p := ⟨X, 5, none⟩) hX).trans c5
  clear b2
  go_wp2_with fail
  go_ret
  exact ⟨rfl, H2.out⟩
end
end Go.Proofs.Ytbanbpphadgoiaa
/- loamref14's Alloc and Head of a space. Conditions: lengths. -/
namespace Go.Proofs.Ytbanbpphadgoiaa
set_option linter.unusedVariables false
set_option linter.unusedSimpArgs false
open Go.RowKit
theorem Two.one {a b : World} {s : Nat} (h : Two a b s none) : a.grownBy b (some s) := ⟨h.os, h.tape, h.output, h.size, fun k hk h1 => h.block k hk (fun e => h1 (by rw [e])) (by simp)⟩
theorem zero_alloc (ws : List (BitVec 64)) (t n : Nat) (x : BitVec 64) (h : t + n ≤ ws.length) (hn : 1 ≤ n) : (zeroW ws t n).set t x = allocW ws t n x := by
  apply List.ext_getElem?
  intro i
  unfold allocW
  rw [List.getElem?_set, zeroW_get ws t i n h, zeroW_get (ws.set t x) (t + 1) i (n - 1) (by rw [List.length_set]; omega), List.getElem?_set]
  by_cases e : t = i
  · subst e
    rw [if_pos rfl, if_pos (by rw [zeroW_len]; omega), if_neg (by omega), if_pos rfl, if_pos (by omega)]
  · rw [if_neg e, if_neg e]
    by_cases c : t ≤ i ∧ i < t + n
    · rw [if_pos c, if_pos (by omega)]
    · rw [if_neg c, if_neg (by omega)]
set_option maxHeartbeats 400000
set_option maxRecDepth 100000
theorem ra_reg (Q : Exit → Act → World → Prop) (a0 : Act) (w : World) (H R N c b t e n room : Nat) (A : Option Addr) (hp hb ht : Int) (r : Bool) (hk : Bk w H 112 #[.int .i64 hp, .int .i64 hb, .bool false, .int .i64 ht]) (hr : Bk w R 30 #[.slice A N c, .int .i64 b, .int .i64 t, .int .i64 e]) (hz : sizeH hp hb false ht = (n : Int)) (d1 : (e : Int) - (t : Int) = (room : Int)) (d2 : (room : Int) ≤ 100000) (d3 : (0 : Int) ≤ (room : Int)) (hd : decide (room < n) = r) (hsz : a0.tmps.size = 69) (sl0 : a0.tmps.getD 0 undef = .pointer (some ⟨R, 0, none⟩)) (sl3 : a0.tmps.getD 3 undef = .pointer (some ⟨H, 0, none⟩))
    (fin : ∀ (vals : Nat → Value) (w1 : World), Below w.heap.size w w1 → (IsV (.bool r)) (vals 11) w1 → Q .normal (putD vals [16, 17, 18, 19, 20, 21, 22, 23, 24, 25, 26, 27] 0 a0) w1) :
    (Code.region 3 (regIn Try.f70 3) true).wp Try.prog Q a0 w := by
  refine region_by (G := fun w w1 => Below w.heap.size w w1) [IsV (.agg #[.int .i64 hp, .int .i64 hb, .bool false, .int .i64 ht]),
    IsV (.int .i64 n),
    IsV (.pointer (some ⟨R, 0, none⟩)),
    IsV (.pointer (some ⟨R, 0, none⟩)),
    IsV (.pointer (some ⟨R, 3, none⟩)),
    IsV (.int .i64 e),
    IsV (.pointer (some ⟨R, 0, none⟩)),
    IsV (.pointer (some ⟨R, 0, none⟩)),
    IsV (.pointer (some ⟨R, 2, none⟩)),
    IsV (.int .i64 t),
    IsV (.int .i64 room),
    IsV (.bool r)]
    [16, 17, 18, 19, 20, 21, 22, 23, 24, 25, 26, 27] (by kernel_rfl) (Gw.drew _) Gw.trans (by rw [hsz]; kernel_rfl) (by kernel_rfl) ?_ ?_ ?_
  · intro f hf
    simp only [List.mem_cons, List.not_mem_nil, or_false] at hf
    rcases hf with rfl | rfl | rfl | rfl | rfl | rfl | rfl | rfl | rfl | rfl | rfl | rfl <;> intro v a b h g <;> first | exact IsV.mono h
  · refine ⟨?_, ?_, ?_, ?_, ?_, ?_, ?_, ?_, ?_, ?_, ?_, ?_, trivial⟩
    · refine owes_v (Go.Op.load 112 (Go.Operand.tmp 3)) 112 [] (by kernel_rfl) (by kernel_rfl) (by kernel_rfl) rfl fun vals w1 ρ hG hF hρ hcst hfun => ?_
      have e3 : ρ (.tmp 3) = .pointer (some ⟨H, 0, none⟩) := ((hρ 3).trans (slotO [] (by kernel_rfl))).trans sl3
      obtain ⟨k1, k2, k3, k4⟩ := (hk.below hG hk.lt).four
      clear hρ hF hcst hfun sl0 sl3 fin
      exact opv_val (by go_simp <;> rfl) ⟨gw_self _, rfl⟩
    · refine owes_v (Go.Op.call { callee := Go.Callee.value (Go.Operand.func 71), args := #[Go.Operand.tmp 16], argTypes := #[112] }) 3 [0] (by kernel_rfl) (by kernel_rfl) (by kernel_rfl) rfl fun vals w1 ρ hG hF hρ hcst hfun => ?_
      have e16 : ρ (.tmp 16) = .agg #[.int .i64 hp, .int .i64 hb, .bool false, .int .i64 ht] := ((hρ 16).trans (slotJ [0] (by rw [hsz]; decide) (by kernel_rfl))).trans (hF 0 (by decide))
      have kz := rsize_c hp hb false ht w1
      rw [hz] at kz
      clear hρ hF hcst sl0 sl3 fin
      exact opv_enter (by go_simp <;> rfl) (of_rp kz)
    · exact owes_mv 0 (by kernel_rfl) (by kernel_rfl) (by kernel_rfl) sl0 (fun _ => rfl)
    · refine owes_v (Go.Op.nilCheck (Go.Operand.tmp 18)) 0 [2] (by kernel_rfl) (by kernel_rfl) (by kernel_rfl) rfl fun vals w1 ρ hG hF hρ hcst hfun => ?_
      have e18 : ρ (.tmp 18) = .pointer (some ⟨R, 0, none⟩) := ((hρ 18).trans (slotJ [2] (by rw [hsz]; decide) (by kernel_rfl))).trans (hF 2 (by decide))
      clear hρ hF hcst hfun sl0 sl3 fin
      exact opv_val (by go_simp <;> rfl) ⟨gw_self _, rfl⟩
    · refine owes_v (Go.Op.fieldAddr 30 (Go.Operand.tmp 19) 3) 0 [3] (by kernel_rfl) (by kernel_rfl) (by kernel_rfl) rfl fun vals w1 ρ hG hF hρ hcst hfun => ?_
      have e19 : ρ (.tmp 19) = .pointer (some ⟨R, 0, none⟩) := ((hρ 19).trans (slotJ [3] (by rw [hsz]; decide) (by kernel_rfl))).trans (hF 3 (by decide))
      clear hρ hF hcst hfun sl0 sl3 fin
      exact opv_val (by go_simp <;> rfl) ⟨gw_self _, rfl⟩
    · refine owes_v (Go.Op.load 3 (Go.Operand.tmp 20)) 3 [4] (by kernel_rfl) (by kernel_rfl) (by kernel_rfl) rfl fun vals w1 ρ hG hF hρ hcst hfun => ?_
      have e20 : ρ (.tmp 20) = .pointer (some ⟨R, 3, none⟩) := ((hρ 20).trans (slotJ [4] (by rw [hsz]; decide) (by kernel_rfl))).trans (hF 4 (by decide))
      have k := (hr.below hG hr.lt).cell 3
      clear hρ hF hcst hfun sl0 sl3 fin
      exact opv_val (by go_simp <;> rfl) ⟨gw_self _, rfl⟩
    · exact owes_mv 0 (by kernel_rfl) (by kernel_rfl) (by kernel_rfl) sl0 (fun _ => rfl)
    · refine owes_v (Go.Op.nilCheck (Go.Operand.tmp 22)) 0 [6] (by kernel_rfl) (by kernel_rfl) (by kernel_rfl) rfl fun vals w1 ρ hG hF hρ hcst hfun => ?_
      have e22 : ρ (.tmp 22) = .pointer (some ⟨R, 0, none⟩) := ((hρ 22).trans (slotJ [6] (by rw [hsz]; decide) (by kernel_rfl))).trans (hF 6 (by decide))
      clear hρ hF hcst hfun sl0 sl3 fin
      exact opv_val (by go_simp <;> rfl) ⟨gw_self _, rfl⟩
    · refine owes_v (Go.Op.fieldAddr 30 (Go.Operand.tmp 23) 2) 0 [7] (by kernel_rfl) (by kernel_rfl) (by kernel_rfl) rfl fun vals w1 ρ hG hF hρ hcst hfun => ?_
      have e23 : ρ (.tmp 23) = .pointer (some ⟨R, 0, none⟩) := ((hρ 23).trans (slotJ [7] (by rw [hsz]; decide) (by kernel_rfl))).trans (hF 7 (by decide))
      clear hρ hF hcst hfun sl0 sl3 fin
      exact opv_val (by go_simp <;> rfl) ⟨gw_self _, rfl⟩
    · refine owes_v (Go.Op.load 3 (Go.Operand.tmp 24)) 3 [8] (by kernel_rfl) (by kernel_rfl) (by kernel_rfl) rfl fun vals w1 ρ hG hF hρ hcst hfun => ?_
      have e24 : ρ (.tmp 24) = .pointer (some ⟨R, 2, none⟩) := ((hρ 24).trans (slotJ [8] (by rw [hsz]; decide) (by kernel_rfl))).trans (hF 8 (by decide))
      have k := (hr.below hG hr.lt).cell 2
      clear hρ hF hcst hfun sl0 sl3 fin
      exact opv_val (by go_simp <;> rfl) ⟨gw_self _, rfl⟩
    · refine owes_v (Go.Op.binOp Go.BinOp.sub 3 (Go.Operand.tmp 21) (Go.Operand.tmp 25) 3) 3 [5, 9] (by kernel_rfl) (by kernel_rfl) (by kernel_rfl) rfl fun vals w1 ρ hG hF hρ hcst hfun => ?_
      have e21 : ρ (.tmp 21) = .int .i64 e := ((hρ 21).trans (slotJ [5, 9] (by rw [hsz]; decide) (by kernel_rfl))).trans (hF 5 (by decide))
      have e25 : ρ (.tmp 25) = .int .i64 t := ((hρ 25).trans (slotJ [5, 9] (by rw [hsz]; decide) (by kernel_rfl))).trans (hF 9 (by decide))
      have kw0 : IntKind.i64.wrap ((room : Int)) = (room : Int) := wrapIn (by omega) (by omega)
      clear hρ hF hcst hfun sl0 sl3 fin
      exact opv_val (by go_simp <;> rfl) ⟨gw_self _, rfl⟩
    · refine owes_v (Go.Op.binOp Go.BinOp.gtr 3 (Go.Operand.tmp 17) (Go.Operand.tmp 26) 3) 4 [1, 10] (by kernel_rfl) (by kernel_rfl) (by kernel_rfl) rfl fun vals w1 ρ hG hF hρ hcst hfun => ?_
      have e17 : ρ (.tmp 17) = .int .i64 n := ((hρ 17).trans (slotJ [1, 10] (by rw [hsz]; decide) (by kernel_rfl))).trans (hF 1 (by decide))
      have e26 : ρ (.tmp 26) = .int .i64 room := ((hρ 26).trans (slotJ [1, 10] (by rw [hsz]; decide) (by kernel_rfl))).trans (hF 10 (by decide))
      clear hρ hF hcst hfun sl0 sl3 fin
      exact opv_val (by go_simp <;> first | rfl | exact hd | rw [hd]) ⟨gw_self _, rfl⟩
  · intro vals w1 hG hF
    exact fin vals w1 hG (hF 11 (by decide +kernel))
theorem ralloc_full (w : World) (R N c b t e : Nat) (A : Option Addr) (hr : Bk w R 30 #[.slice A N c, .int .i64 b, .int .i64 t, .int .i64 e]) (hp hb ht : Int) (n : Nat) (hrt : rightH hp hb false ht = true) (hn : sizeH hp hb false ht = (n : Int)) (hte : t ≤ e) (he : e ≤ 100000) (hf : e - t < n) :
    Calls Try.prog 70 #[.pointer (some ⟨R, 0, none⟩), .agg #[.int .i64 hp, .int .i64 hb, .bool false, .int .i64 ht]] w (RetP (.tuple #[.int .i64 0, .int .i64 6]) w) := by
  have HRt := Lib.hid (fun W => rright_c hp hb false ht W)
  rw [hrt] at HRt
  have hk := Bk.new w 112 #[.int .i64 hp, .int .i64 hb, .bool false, .int .i64 ht]
  have HK := Lib.hid hk
  have hB := Gw.alloc w (.cells #[.int .i64 hp, .int .i64 hb, .bool false, .int .i64 ht] 112)
  have HB := Lib.hid hB
  have HR := Lib.hid hr
  obtain ⟨room, hroom⟩ : ∃ r, r = e - t := ⟨_, rfl⟩
  have HX := Lib.hid (show ((e : Int) - (t : Int) = (room : Int)) ∧ ((room : Int) ≤ 100000) ∧ ((0 : Int) ≤ (room : Int)) ∧ decide (room < n) = true from ⟨by omega, by omega, by omega, by simp; omega⟩)
  have HN := Lib.hid hn
  clear hrt hk hB hr hn hte he hf hroom
  go_enter Try.func70, Try.ntmps70
  go_wp2_with fail
  refine Calls.mono (HRt.out _) ?_
  rintro r w1 ⟨rfl, b1⟩
  have HB1 := Lib.hid (HB.out.trans (b1.mono HB.out.size))
  have HK1 := Lib.hid (HK.out.below b1 HK.out.lt)
  obtain ⟨k0, k1, k2, k3⟩ := HK1.out.four
  have HR1 := Lib.hid (HR.out.below HB1.out HR.out.lt)
  clear b1
  go_wp2_with fail
  refine ra_reg _ _ _ w.heap.size R N c b t e n room A hp hb ht true HK1.out HR1.out HN.out HX.out.1 HX.out.2.1 HX.out.2.2.1 HX.out.2.2.2 rfl rfl rfl ?_
  intro vals w2 hG h27
  unfold IsV at h27
  simp only [putD, Act.put, List.setIfInBounds_toArray, List.set_cons_zero, List.set_cons_succ, h27]
  have HB2 := Lib.hid (HB1.out.trans (hG.mono HB1.out.size))
  clear h27 hG k0 k1 k2 k3
  go_wp2_with fail
  go_ret2
  exact ⟨rfl, HB2.out⟩
theorem ralloc_ok (w : World) (R b t e c : Nat) (A : Option Addr) (ws : List (BitVec 64)) (hr : Bk w R 30 #[.slice A ws.length c, .int .i64 b, .int .i64 t, .int .i64 e]) (hrd : Rd u64v w w.heap.size A ws) (hp hb ht : Int) (n : Nat) (hrt : rightH hp hb false ht = true) (hn : sizeH hp hb false ht = (n : Int)) (hn1 : 1 ≤ n) (hte : t ≤ e) (hel : e ≤ ws.length) (hl : ws.length ≤ 100000) (hf : n ≤ e - t) :
    Calls Try.prog 70 #[.pointer (some ⟨R, 0, none⟩), .agg #[.int .i64 hp, .int .i64 hb, .bool false, .int .i64 ht]] w fun r w' => r = .returned (.tuple #[.int .i64 t, .int .i64 0]) ∧ ∃ A' c', Bk w' R 30 #[.slice A' ws.length c', .int .i64 b, .int .i64 ((t + n : Nat) : Int), .int .i64 e] ∧ Ow u64v 62 w' w.heap.size (.slice A' ws.length c') (allocW ws t n (packH hp hb false ht)) ∧ w.grownBy w' (some R) := by
  have HRt := Lib.hid (fun W => rright_c hp hb false ht W)
  rw [hrt] at HRt
  have HSz := Lib.hid (fun W => rsize_c hp hb false ht W)
  rw [hn] at HSz
  have HPk := Lib.hid (fun W => rpack_c hp hb false ht W)
  have e1 : errH hp hb false ht = 0 := by unfold errH; rw [hrt]; rfl
  rw [e1] at HPk
  obtain ⟨x, hx⟩ : ∃ x, x = packH hp hb false ht := ⟨_, rfl⟩
  rw [← hx] at HPk ⊢
  have hk := Bk.new w 112 #[.int .i64 hp, .int .i64 hb, .bool false, .int .i64 ht]
  have HK := Lib.hid hk
  have hB := Gw.alloc w (.cells #[.int .i64 hp, .int .i64 hb, .bool false, .int .i64 ht] 112)
  have HB := Lib.hid hB
  have HR := Lib.hid hr
  have HRd := Lib.hid hrd
  obtain ⟨N, hN⟩ : ∃ N, N = ws.length := ⟨_, rfl⟩
  rw [← hN] at HR ⊢
  obtain ⟨room, hroom⟩ : ∃ r, r = e - t := ⟨_, rfl⟩
  obtain ⟨tn, htn⟩ : ∃ tn, tn = t + n := ⟨_, rfl⟩
  rw [← htn]
  have HX := Lib.hid (show ((e : Int) - (t : Int) = (room : Int)) ∧ ((room : Int) ≤ 100000) ∧ ((0 : Int) ≤ (room : Int)) ∧ decide (room < n) = false from ⟨by omega, by omega, by omega, by simp; omega⟩)
  have HN := Lib.hid hn
  have HNN := Lib.hid hN
  have HTN := Lib.hid (show tn = t + n ∧ tn ≤ N ∧ 1 ≤ n ∧ N ≤ 100000 from ⟨htn, by omega, hn1, by omega⟩)
  have d2 : (t : Int) + (n : Int) = (tn : Int) := by omega
  have d3 : (tn : Int) ≤ 100000 := by omega
  have d4 : (t : Int) ≤ 100000 := by omega
  have d5 : (0 : Int) ≤ (tn : Int) := by omega
  have d6 : (0 : Int) ≤ (t : Int) := by omega
  have d7 : (t : Int) < (N : Int) := by omega
  have d8 : (n : Int) ≤ 100000 := by omega
  clear hrt hk hB hr hn hte hel hl hf hroom hx hN htn e1 hrd hn1
  go_enter Try.func70, Try.ntmps70
  go_wp2_with fail
  refine Calls.mono (HRt.out _) ?_
  rintro r w1 ⟨rfl, b1⟩
  have HB1 := Lib.hid (HB.out.trans (b1.mono HB.out.size))
  have HK1 := Lib.hid (HK.out.below b1 HK.out.lt)
  obtain ⟨k0, k1, k2, k3⟩ := HK1.out.four
  have HR1 := Lib.hid (HR.out.below HB1.out HR.out.lt)
  clear b1
  go_wp2_with fail
  refine ra_reg _ _ _ w.heap.size R N c b t e n room A hp hb ht false HK1.out HR1.out HN.out HX.out.1 HX.out.2.1 HX.out.2.2.1 HX.out.2.2.2 rfl rfl rfl ?_
  intro vals w2 hG h27
  unfold IsV at h27
  simp only [putD, Act.put, List.setIfInBounds_toArray, List.set_cons_zero, List.set_cons_succ, h27]
  have HB2 := Lib.hid (HB1.out.trans (hG.mono HB1.out.size))
  have HK2 := Lib.hid (HK1.out.below hG HK1.out.lt)
  have HR2 := Lib.hid (HR1.out.below hG HR1.out.lt)
  have c0 := HR2.out.cell 0
  have c2 := HR2.out.cell 2
  have hrl := HR2.out.lt
  clear h27 hG k0 k1 k2 k3
  have hsw2 := HB2.out.size
  have hal := Gw.alloc w2 (.cells #[] 62)
  have HAL := Lib.hid hal
  clear hal
  go_wp2_with (at_builtin; refine wp_app one64 u64v_one rfl (.tmp 32) (.tmp 36) rfl w2.heap.size _ [] rfl (ow_empty u64v 62 w2 w2.heap.size (Nat.le_refl _)) A N c ws rfl HNN.out w2.heap.size (((HRd.out.below HB2.out).more HB2.out.size).alloc (Nat.le_refl _) _) (by have := HTN.out; have := HNN.out; simp; omega) (by decide) (by simp) ?_; intro v4 w4 ho4 hb4 hg4 hv4)
  rw [List.nil_append] at ho4
  obtain ⟨A4, c4, rfl, hc4⟩ := ho4.form
  rw [← HNN.out] at ho4 ⊢
  have HB4' : Hid (Below w2.heap.size w2 w4) := Lib.hid (HAL.out.trans hb4)
  have HB4 : Hid (Below w.heap.size w w4) := Lib.hid (HB2.out.trans (HB4'.out.mono HB2.out.size))
  have HO4 : Hid (Ow u64v 62 w4 w2.heap.size (.slice A4 N c4) ws) := Lib.hid ho4
  have HK4 := Lib.hid (HK2.out.below HB4'.out HK2.out.lt)
  clear ho4 hb4 hg4 hv4 hc4 c0 c2 hrl
  go_wp2_with fail
  go_loopw [8] (fun i W => ∃ k : Nat, k ≤ n ∧ i = .int .i64 k ∧ Ow u64v 62 W w2.heap.size (.slice A4 N c4) (zeroW ws t k) ∧ Below w2.heap.size w2 W) (fun i _ => n - (Go.RowKit.intOf i).toNat)
  case atStart => exact ⟨0, by omega, rfl, HO4.out, HB4'.out⟩
  case round =>
    obtain ⟨k, hkn, rfl, ho, hB⟩ := hrel
    have HBk := Lib.hid (And.intro ho hB)
    obtain ⟨k0, k1, k2, k3⟩ := (HK2.out.below hB HK2.out.lt).four
    obtain ⟨q, rfl⟩ : ∃ q, A4 = some ⟨q, 0, none⟩ := by
      rcases ho.2 with ⟨e, hn⟩ | ⟨q, _, _, e, _⟩
      · have hn' : (zeroW ws t k).length = 0 := hn
        rw [zeroW_len] at hn'
        have := HTN.out
        have := HNN.out
        omega
      · injection e with e
        exact ⟨q, e⟩
    have pk1 : (0 : Int) ≤ (k : Int) := by omega
    by_cases hlt : k < n
    · have pk2 : (k : Int) < (n : Int) := by omega
      obtain ⟨s, hs⟩ : ∃ s, s = t + k := ⟨_, rfl⟩
      have hX := HTN.out
      have hNN := HNN.out
      have hsl : s < (zeroW ws t k).length := by rw [zeroW_len]; omega
      have HST := Lib.hid (fun W (hW : Below wr.heap.size wr W) => show (W.frozen? ⟨q, s, none⟩ = false ∧ W.cell? ⟨q, s, none⟩ = some (u64v ((zeroW ws t k)[s]))) ∧ (Ow u64v 62 (W.setCell ⟨q, s, none⟩ (.int .u64 0)) w2.heap.size (.slice (some ⟨q, 0, none⟩) N c4) (zeroW ws t (k + 1)) ∧ Below w2.heap.size w2 (W.setCell ⟨q, s, none⟩ (.int .u64 0))) from by
        have ho' := ho.below hW
        refine ⟨⟨ho'.free s, ho'.cell hsl⟩, ?_, (hB.trans (hW.mono hB.size)).setCell (p := ⟨q, s, none⟩) ho.ge.1 _⟩
        have h := ho'.set hsl 0#64
        have e0 : u64v 0#64 = .int .u64 0 := congrArg (fun i => Value.int .u64 i) (by decide +kernel)
        have e1 : (zeroW ws t k).set s 0#64 = zeroW ws t (k + 1) := by rw [hs]; rfl
        rw [e0, e1] at h
        exact h)
      obtain ⟨z, hz⟩ : ∃ z, z = (zeroW ws t k)[s] := ⟨_, rfl⟩
      rw [← hz] at HST
      have f1 : (t : Int) + (k : Int) = (s : Int) := by omega
      have f2 : (0 : Int) ≤ (s : Int) := by omega
      have f3 : (s : Int) < (N : Int) := by omega
      clear hs hX hNN hsl hz ho hB
      go_wp2_with fail
      refine Calls.mono (HSz.out wr) ?_
      rintro r w5 ⟨rfl, b5⟩
      obtain ⟨⟨g1, g2⟩, g3⟩ := HST.out w5 b5
      unfold u64v at g2
      have G3 := Lib.hid g3
      clear g3 b5 k0 k1 k2 k3
      go_wp2_with fail
      go_roundw
      case rel => exact ⟨k + 1, by omega, by go_num, G3.out.1, G3.out.2⟩
      case measure => (first | (simp [Go.RowKit.intOf]; done) | (simp [Go.RowKit.intOf]; omega))
    · have hkk : k = n := by omega
      subst hkk
      have hX := HTN.out
      have hNN := HNN.out
      have htl : t < (zeroW ws t k).length := by rw [zeroW_len]; omega
      have hq2 := ho.ge
      have HST := Lib.hid (fun W (hW : Below wr.heap.size wr W) => show (W.frozen? ⟨q, t, none⟩ = false ∧ W.cell? ⟨q, t, none⟩ = some (u64v ((zeroW ws t k)[t]))) ∧ (Ow u64v 62 (W.setCell ⟨q, t, none⟩ (.int .u64 (U64 x))) w2.heap.size (.slice (some ⟨q, 0, none⟩) N c4) (allocW ws t k x) ∧ Below w2.heap.size w2 (W.setCell ⟨q, t, none⟩ (.int .u64 (U64 x)))) from by
        have ho' := ho.below hW
        refine ⟨⟨ho'.free t, ho'.cell htl⟩, ?_, (hB.trans (hW.mono hB.size)).setCell (p := ⟨q, t, none⟩) ho.ge.1 _⟩
        have h := ho'.set htl x
        rw [zero_alloc ws t k x (by omega) hX.2.2.1] at h
        exact h)
      obtain ⟨z, hz⟩ : ∃ z, z = (zeroW ws t k)[t] := ⟨_, rfl⟩
      rw [← hz] at HST
      have HB' := Lib.hid hB
      clear hX hNN htl hz ho hB hq2
      go_wp2_with fail
      refine Calls.mono (HSz.out wr) ?_
      rintro r w5 ⟨rfl, b5⟩
      have HB5 : Hid (Below w2.heap.size w2 w5) := Lib.hid (HB'.out.trans (b5.mono HB'.out.size))
      obtain ⟨k0, k1, k2, k3⟩ := (HK2.out.below HB5.out HK2.out.lt).four
      have HBA := Lib.hid b5
      clear b5
      go_wp2_with fail
      refine Calls.mono (HPk.out w5) ?_
      rintro r w6 ⟨rfl, b6⟩
      obtain ⟨⟨g1, g2⟩, g3⟩ := HST.out w6 (HBA.out.trans (b6.mono HBA.out.size))
      unfold u64v at g2
      obtain ⟨w7, hw7⟩ : ∃ w7, w7 = w6.setCell ⟨q, t, none⟩ (.int .u64 (U64 x)) := ⟨_, rfl⟩
      rw [← hw7] at g3
      have G3 := Lib.hid g3
      have hR7 := HR2.out.below g3.2 HR2.out.lt
      have f70 := hR7.free 0
      have c70 := hR7.cell 0
      rw [hw7] at f70 c70
      have hk7 := HK2.out.below g3.2 HK2.out.lt
      have hRne : w.heap.size ≠ R := by have := HR.out.lt; omega
      have hk8 := hk7.far (p := ⟨R, 0, none⟩) hRne (.slice (some ⟨q, 0, none⟩) N c4)
      have hR8 := hR7.set 0 (.slice (some ⟨q, 0, none⟩) N c4)
      have HW8 : Hid (w2.heap.size ≤ q ∧ Two w (w7.setCell ⟨R, 0, none⟩ (.slice (some ⟨q, 0, none⟩) N c4)) R none) := Lib.hid ⟨g3.1.ge.1, (Two.below (HB2.out.trans (g3.2.mono HB2.out.size))).trans (Two.setc w7 R 0 _ none)⟩
      have HO8 : Hid (Ow u64v 62 (w7.setCell ⟨R, 0, none⟩ (.slice (some ⟨q, 0, none⟩) N c4)) w2.heap.size (.slice (some ⟨q, 0, none⟩) N c4) (allocW ws t k x)) := Lib.hid (g3.1.kept (grown_set w7 ⟨R, 0, none⟩ _) (.inr (fun e => by injection e with e; have := g3.1.ge.1; have := HR2.out.lt; change q = R at e; omega)))
      rw [hw7] at hk8 hR8 HW8 HO8
      have HR8 := Lib.hid hR8
      have HK8 := Lib.hid hk8
      obtain ⟨m0, m1, m2, m3⟩ := hk8.four
      clear g3 hw7 hR7 hk7 hRne hk8 hR8 b6 HBA HST HB5 HB' k0 k1 k2 k3
      go_wp2_with fail
      refine Calls.mono (HSz.out _) ?_
      rintro r w9 ⟨rfl, b9⟩
      have hR9 := HR8.out.below b9 HR8.out.lt
      have f2 := hR9.free 2
      have c2 := hR9.cell 2
      have HR9 := Lib.hid (hR9.set 2 (.int .i64 tn))
      have HO9 := Lib.hid (((HO8.out.below b9).kept (grown_set w9 ⟨R, 2, none⟩ (.int .i64 tn)) (.inr (fun e => by injection e with e; have := HW8.out.1; have := HR2.out.lt; change q = R at e; omega))).mono HB2.out.size)
      have HW9 := Lib.hid ((HW8.out.2.trans (Two.below b9)).trans (Two.setc w9 R 2 (.int .i64 tn) none))
      have hrl9 := hR9.lt
      clear hR9 b9 m0 m1 m2 m3
      go_wp2_with fail
      go_ret2
      exact ⟨rfl, some ⟨q, 0, none⟩, c4, HR9.out, HO9.out, HW9.out.one⟩
end Go.Proofs.Ytbanbpphadgoiaa
/- The reference's copier: Move, where there is no room. Conditions: lengths. -/
namespace Go.Proofs.Ytbanbpphadgoiaa
set_option linter.unusedVariables false
set_option linter.unusedSimpArgs false
open Go.RowKit Go.Maps
set_option maxHeartbeats 1000000
set_option maxRecDepth 100000
theorem RefAt.belowB {W W' : World} {R B : Nat} {A : Option Addr} {c : Nat} {ws : List (BitVec 64)} {b t e : Nat} (h : RefAt W R A c ws b t e) (hb : Below B W W') (hs : W.heap.size ≤ W'.heap.size) (hR : R < B) (hA : ∀ ad, A = some ad → ws ≠ [] → ad.block < B) : RefAt W' R A c ws b t e := by
  refine ⟨h.blk.below hb hR, fun j hj => ?_⟩
  obtain ⟨ad, e1, e2, e3⟩ := h.rd j hj
  have hlt := hA ad e1 (fun e => by rw [e] at hj; exact absurd hj (Nat.not_lt_zero _))
  exact ⟨ad, e1, Nat.lt_of_lt_of_le e2 hs, (hb.cell (p := ad.add j) (by rw [add_block]; exact hlt)).trans e3⟩
section
variable {B X R N : Nat} {rA : Option Addr} {rc : Nat} {nA : Option Addr} {nc : Nat} {fv tv : Value} {ws : List (BitVec 64)} {b t e : Nat} {T : List (BitVec 64)} {top : Nat} {us : List (Nat × Nat)} {scan : Nat} {full : Bool}
theorem RcAt.fill {w : World} (h : RcAt w B X R N rA rc nA nc fv tv ws b t e T top us scan full) : RcAt (w.setCell ⟨X, 5, none⟩ (.bool true)) B X R N rA rc nA nc fv tv ws b t e T top us scan true ∧ Below B w (w.setCell ⟨X, 5, none⟩ (.bool true)) := by
  have K := Kept.set w X 5 (.bool true)
  obtain ⟨n1, n2, n3⟩ := h.XN
  have hB : B ≤ w.heap.size := by have := h.blk.lt; omega
  have hb : Below B w (w.setCell ⟨X, 5, none⟩ (.bool true)) := K.below hB (fun k hk => by omega)
  obtain ⟨a1, a2, a3⟩ := h.ap X (.inl rfl)
  refine ⟨⟨h.src.belowB hb K.size h.RB h.rB, h.RB, h.rB, h.blk.set 5 (.bool true), K.bk h.nw (fun e => n1 e.symm), K.ow h.row (fun k hk e => a1 (e ▸ hk)), K.ow h.fr (fun k hk e => a2 (e ▸ hk)), K.ow h.to_ (fun k hk e => a3 (e ▸ hk)), h.XN, h.ap, h.ap2, h.ap3⟩, hb⟩
theorem move_nofit (w : World) (h : RcAt w B X R N rA rc nA nc fv tv ws b t e T top us scan false) (hl : us.length ≤ 100000) (hwl : ws.length ≤ 8192) (hT : T.length ≤ 8192) (htT : top ≤ T.length) (a : Nat) (ha : a < ws.length) (room : Nat) (hg : goodX (ws.getD a 0#64) room = true) (hu : wentV us a = -1) (hf : ¬ szX (ws.getD a 0#64) ≤ T.length - top) :
    Calls Try.prog 36 #[.pointer (some ⟨X, 0, none⟩), .int .i64 (a : Int)] w fun r w' => r = .returned (.int .i64 (-1)) ∧ RcAt w' B X R N rA rc nA nc fv tv ws b t e T top us scan true ∧ Below B w w' ∧ Kept (fun k => k = X) w w' := by
  have HW := Lib.hid (h.went hl a)
  rw [hu] at HW
  obtain ⟨x, hx⟩ : ∃ x, x = ws.getD a 0#64 := ⟨_, rfl⟩
  rw [← hx] at hg hf
  obtain ⟨hv, _, _, hsx, hsz, _⟩ := head_of hg
  have hrt := (good_right hg).1
  have HUn := Lib.hid (fun W => runpack_false x (goodX_out hg).2.1 W)
  rw [hv] at HUn
  obtain ⟨ad, rfl, hlt, hcw⟩ := h.src.rd a ha
  have hcx : w.cell? (ad.add a) = some (.int .u64 (U64 x)) := by
    rw [hcw, hx, List.getD_eq_getElem?_getD, List.getElem?_eq_getElem ha]; rfl
  have hlt : (ad.add a).block < w.heap.size := by rw [add_block]; exact hlt
  obtain ⟨L, hL⟩ : ∃ L, L = ws.length := ⟨_, rfl⟩
  have c0 := h.src.four.1
  rw [← hL] at c0
  have x0 := h.blk.cell 0
  have x1 := h.blk.cell 1
  have x5 := h.blk.cell 5
  have hX := h.blk.lt
  have hR := h.src.blk.lt
  have HP := Lib.hid h
  have q6 : (a : Int) < (L : Int) := by omega
  have q2 : (0 : Int) ≤ (a : Int) := by omega
  have qL : (L : Int) ≤ 8192 := by omega
  obtain ⟨P, hP⟩ : ∃ P, P = P0 x := ⟨_, rfl⟩
  obtain ⟨n, hn⟩ : ∃ P, P = B0 x := ⟨_, rfl⟩
  rw [← hP, ← hn] at HUn hrt hsz
  have HAl : Hid (∀ W, Below w.heap.size w W → Calls Try.prog 70 #[.pointer (some ⟨N, 0, none⟩), .agg #[.int .i64 (P : Int), .int .i64 (n : Int), .bool false, .int .i64 0]] W (fun e2 w2 => ∃ v, e2 = .returned v ∧ Kept (fun _ => False) W w2 ∧ AndV (.tuple #[.int .i64 0, .int .i64 6]) (fun z => RcAt z B X R N (some ad) rc nA nc fv tv ws b t e T top us scan false) v w2)) := Lib.hid fun W hW =>
    (ralloc_full W N T.length nc 0 top T.length nA (h.below hW).nw (P : Int) (n : Int) 0 (szX x) hrt hsz htT (by omega) (by omega)).mono fun r w2 ⟨h1, b2⟩ => ⟨_, h1, Kept.of_below b2 _, rfl, (h.below hW).below b2⟩
  have p0 : ¬ (a : Int) < 0 := by omega
  clear h hg hf hv hsx hsz hrt hcw hL hwl hT htT ha hu hx hP hn
  go_enter Try.func36, Try.ntmps36
  go_wp2_with fail
  refine Calls.mono HW.out ?_
  rintro r w2 ⟨rfl, b2⟩
  have H2 := Lib.hid b2
  have x0 : w2.cell? ⟨X, 0, none⟩ = some (.pointer (some ⟨R, 0, none⟩)) := (b2.cell (p := ⟨X, 0, none⟩) hX).trans x0
  have x5 : w2.cell? ⟨X, 5, none⟩ = some (.bool false) := (b2.cell (p := ⟨X, 5, none⟩) hX).trans x5
  have c0 := (b2.cell (p := ⟨R, 0, none⟩) hR).trans c0
  have hcx := (b2.cell (p := ad.add a) hlt).trans hcx
  have hX2 := Nat.lt_of_lt_of_le hX b2.size
  have hR2 := Nat.lt_of_lt_of_le hR b2.size
  have hl2 := Nat.lt_of_lt_of_le hlt b2.size
  clear b2 x1 hX hR hlt
  go_wp2_with fail
  refine Calls.mono (HUn.out w2) ?_
  rintro r w2' ⟨rfl, b2⟩
  have H2' := Lib.hid (H2.out.trans (b2.mono H2.out.size))
  clear b2 x0 x5 c0 hcx hX2 hR2 hl2
  go_wp2_with fail
  obtain ⟨H, hH⟩ : ∃ H, H = w2'.heap.size := ⟨_, rfl⟩
  obtain ⟨w3, hw3⟩ : ∃ w3, w3 = w2'.alloc (.cells #[.int .i64 (P : Int), .int .i64 (n : Int), .bool false, .int .i64 0] 112) := ⟨_, rfl⟩
  have hbk : Bk w3 H 112 #[.int .i64 (P : Int), .int .i64 (n : Int), .bool false, .int .i64 0] := by rw [hw3, hH]; exact Bk.new w2' _ _
  have H3 := Lib.hid (show Below w.heap.size w w3 by rw [hw3]; exact H2'.out.alloc H2'.out.size _)
  rw [← hH, ← hw3]
  have h3 := HP.out.below H3.out
  obtain ⟨g0, g1, g2, g3⟩ := hbk.four
  have x1 := h3.blk.cell 1
  have hX3 := h3.blk.lt
  have hH3 := hbk.lt
  have HAl3 : Hid (∀ W, Below w3.heap.size w3 W → _) := Lib.hid fun W hW => HAl.out W (H3.out.trans (hW.mono H3.out.size))
  clear hH hw3 hbk h3 HAl
  refine rm7 _ _ _ X N H (fun _ => False) (P : Int) (n : Int) 0 6 _ hX3 (fun h => h) hH3 (fun h => h) x1 g0 g1 g2 g3 (fun _ _ h g => h.below g) HAl3 ?_ ?_ ?_ ?_
  · rfl
  · rfl
  · rfl
  intro vals2 w4 hK h5 h8 hcall
  unfold IsV at h5 h8
  simp only [putO, Act.put, List.setIfInBounds_toArray, List.set_cons_zero, List.set_cons_succ, h5, h8]
  have HE := Lib.hid (And.intro hcall.2 hK)
  have hX4 := hcall.2.blk.lt
  have x5 := hcall.2.blk.cell 5
  have xf := hcall.2.blk.free 5
  clear hK h5 h8 hcall x1 g0 g1 g2 g3 hX3 hH3 HAl3
  go_wp2_with fail
  go_ret
  obtain ⟨r1, r2⟩ := HE.out.1.fill
  have hB : B ≤ w.heap.size := by have := HP.out.blk.lt; have := HP.out.XN; omega
  have h4 : Below B w3 w4 := HE.out.2.below (Nat.le_trans hB H3.out.size) (fun k hk => hk.elim)
  exact ⟨rfl, r1, ((H3.out.mono hB).trans h4).trans r2, ((Kept.of_below H3.out _).trans (HE.out.2.more (fun _ h => h.elim))).trans (Kept.set _ X 5 _)⟩
end
end Go.Proofs.Ytbanbpphadgoiaa
/- The reference's copier: what Move turns in memory. Conditions: lengths. -/
namespace Go.Proofs.Ytbanbpphadgoiaa
set_option linter.unusedVariables false
set_option linter.unusedSimpArgs false
open Go.RowKit Go.Maps
section
variable {B X R N : Nat} {rA : Option Addr} {rc : Nat} {nA : Option Addr} {nc : Nat} {fv tv : Value} {ws : List (BitVec 64)} {b t e : Nat} {T T' : List (BitVec 64)} {top : Nat} {us : List (Nat × Nat)} {scan : Nat} {full : Bool}
/-- The copier's blocks lie below what the call makes. -/
theorem RcAt.lts {w : World} (h : RcAt w B X R N rA rc nA nc fv tv ws b t e T top us scan full) : X < w.heap.size ∧ N < w.heap.size ∧ (∀ k, fv.ownBlock = some k → B ≤ k ∧ k < w.heap.size) ∧ (∀ k, tv.ownBlock = some k → B ≤ k ∧ k < w.heap.size) ∧ (∀ k, (Value.slice nA T.length nc).ownBlock = some k → B ≤ k ∧ k < w.heap.size) ∧ B ≤ w.heap.size := by
  have h1 := h.blk.lt
  have h2 := h.XN
  exact ⟨h1, h.nw.lt, fun k hk => h.fr.lt k hk, fun k hk => h.to_.lt k hk, fun k hk => h.row.lt k hk, by omega⟩
/-- The copier's blocks. -/
def RcS (X N : Nat) (fv tv row : Value) (k : Nat) : Prop := k = X ∨ k = N ∨ fv.ownBlock = some k ∨ tv.ownBlock = some k ∨ row.ownBlock = some k
/-- A new row of words is laid into the new space. -/
theorem RcAt.lay {w0 w : World} (h : RcAt w0 B X R N rA rc nA nc fv tv ws b t e T top us scan full) (hb : Below w0.heap.size w0 w) {q qc : Nat} (ho : Ow u64v 62 w w0.heap.size (.slice (some ⟨q, 0, none⟩) T'.length qc) T') (hT : T'.length = T.length) :
    RcAt (w.setCell ⟨N, 0, none⟩ (.slice (some ⟨q, 0, none⟩) T'.length qc)) B X R N rA rc (some ⟨q, 0, none⟩) qc fv tv ws b t e T' top us scan full ∧ Below B w0 (w.setCell ⟨N, 0, none⟩ (.slice (some ⟨q, 0, none⟩) T'.length qc)) := by
  obtain ⟨l1, l2, l3, l4, l5, l6⟩ := h.lts
  have hq := (ho.lt q rfl).1
  have h' := h.below hb
  have K := Kept.set w N 0 (.slice (some ⟨q, 0, none⟩) T'.length qc)
  obtain ⟨n1, n2, n3⟩ := h.XN
  have hB : B ≤ w.heap.size := by have := hb.size; omega
  have hbB : Below B w (w.setCell ⟨N, 0, none⟩ (.slice (some ⟨q, 0, none⟩) T'.length qc)) := K.below hB (fun k hk => by omega)
  obtain ⟨a1, a2, a3⟩ := h.ap N (.inr rfl)
  have own : ∀ k, (Value.slice (some ⟨q, 0, none⟩) T'.length qc).ownBlock = some k → k = q := fun k hk => by injection hk with hk; exact hk.symm
  refine ⟨⟨h'.src.belowB hbB K.size h.RB h.rB, h.RB, h.rB, K.bk h'.blk n1, ?_, K.ow (ho.mono l6) (fun k hk e => by have := own k hk; omega), K.ow h'.fr (fun k hk e => a2 (e ▸ hk)), K.ow h'.to_ (fun k hk e => a3 (e ▸ hk)), h.XN, fun k hk => ⟨fun hq2 => ?_, (h.ap k hk).2.1, (h.ap k hk).2.2⟩, fun k hk => ⟨(h.ap2 k hk).1, fun hq2 => ?_⟩, fun k hk hq2 => ?_⟩, (hb.mono l6).trans hbB⟩
  · rw [hT]
    have := h'.nw.set 0 (.slice (some ⟨q, 0, none⟩) T'.length qc)
    rw [hT] at this
    exact this
  · have h1 := own k hq2
    rcases hk with hk | hk <;> omega
  · have h1 := own k hq2
    have h2 := (l3 k hk).2
    omega
  · have h1 := own k hq2
    have h2 := (l4 k hk).2
    omega
/-- A place is appended to From. -/
theorem RcAt.pushF {w w6 : World} {o : Obj} {v6 : Value} {a : Nat} (h : RcAt w B X R N rA rc nA nc fv tv ws b t e T top us scan full) (ho : Ow iN 3 w6 B v6 (us.map Prod.fst ++ [a])) (hg : (w.alloc o).grownBy w6 fv.ownBlock) (hv : v6.ownBlock = fv.ownBlock ∨ v6.ownBlock = some (w.alloc o).heap.size) :
    ∀ W, W = w6.setCell ⟨X, 2, none⟩ v6 → RefAt W R rA rc ws b t e ∧ Bk W X 49 #[.pointer (some ⟨R, 0, none⟩), .pointer (some ⟨N, 0, none⟩), v6, tv, .int .i64 scan, .bool full] ∧ Bk W N 30 #[.slice nA T.length nc, .int .i64 0, .int .i64 top, .int .i64 T.length] ∧ Ow u64v 62 W B (.slice nA T.length nc) T ∧ Ow iN 3 W B v6 (us.map Prod.fst ++ [a]) ∧ Ow iN 3 W B tv (us.map Prod.snd) ∧ (∀ k, v6.ownBlock = some k → k ≠ X ∧ k ≠ N ∧ tv.ownBlock ≠ some k ∧ (Value.slice nA T.length nc).ownBlock ≠ some k) ∧ Below B w W := by
  rintro W rfl
  obtain ⟨l1, l2, l3, l4, l5, l6⟩ := h.lts
  have hsz : w.heap.size ≤ (w.alloc o).heap.size := (Gw.alloc w o).size
  have K1 := Kept.grown hg
  have K2 := Kept.set w6 X 2 v6
  obtain ⟨n1, n2, n3⟩ := h.XN
  obtain ⟨x1, x2, x3⟩ := h.ap X (.inl rfl)
  obtain ⟨y1, y2, y3⟩ := h.ap N (.inr rfl)
  have n6 : ∀ k, v6.ownBlock = some k → k ≠ X ∧ k ≠ N ∧ tv.ownBlock ≠ some k ∧ (Value.slice nA T.length nc).ownBlock ≠ some k := by
    intro k hk
    rcases hv with h1 | h1
    · rw [hk] at h1
      refine ⟨fun e => x2 (e ▸ h1.symm), fun e => y2 (e ▸ h1.symm), (h.ap2 k h1.symm).1, (h.ap2 k h1.symm).2⟩
    · rw [hk] at h1
      injection h1 with h1
      exact ⟨by omega, by omega, fun e => by have := (l4 k e).2; omega, fun e => by have := (l5 k e).2; omega⟩
  have hal := h.below (Gw.alloc w o)
  have b1 : Below B w (w.alloc o) := (Gw.alloc w o).mono l6
  have b2 : Below B (w.alloc o) w6 := K1.below (by omega) (fun k hk => (l3 k hk).1)
  have b3 : Below B w6 (w6.setCell ⟨X, 2, none⟩ v6) := K2.below (by have := K1.size; omega) (fun k hk => by omega)
  have s1 := K1.size
  refine ⟨(hal.src.belowB b2 K1.size h.RB h.rB).belowB b3 K2.size h.RB h.rB, ((hal.blk).grown hg (fun e => x2 e.symm)).set 2 v6, K2.bk ((hal.nw).grown hg (fun e => y2 e.symm)) (fun e => n1 e.symm), K2.ow (K1.ow hal.row (fun k hk e => (h.ap2 k e).2 hk)) (fun k hk e => x1 (e ▸ hk)), K2.ow ho (fun k hk e => (n6 k hk).1 e), K2.ow (K1.ow hal.to_ (fun k hk e => (h.ap2 k e).1 hk)) (fun k hk e => x3 (e ▸ hk)), n6, (b1.trans b2).trans b3⟩
/-- A place is appended to To. -/
theorem push_to {w w8 : World} {o : Obj} {v6 v8 : Value} {a u : Nat} (src : RefAt w R rA rc ws b t e) (RB : R < B) (rB : ∀ ad, rA = some ad → ws ≠ [] → ad.block < B) (blk : Bk w X 49 #[.pointer (some ⟨R, 0, none⟩), .pointer (some ⟨N, 0, none⟩), v6, tv, .int .i64 scan, .bool full]) (nw : Bk w N 30 #[.slice nA T.length nc, .int .i64 0, .int .i64 top, .int .i64 T.length]) (row : Ow u64v 62 w B (.slice nA T.length nc) T) (fr : Ow iN 3 w B v6 (us.map Prod.fst ++ [a])) (to_ : Ow iN 3 w B tv (us.map Prod.snd)) (n6 : ∀ k, v6.ownBlock = some k → k ≠ X ∧ k ≠ N ∧ tv.ownBlock ≠ some k ∧ (Value.slice nA T.length nc).ownBlock ≠ some k) (XN : X ≠ N ∧ B ≤ X ∧ B ≤ N) (ap : ∀ k, (k = X ∨ k = N) → (Value.slice nA T.length nc).ownBlock ≠ some k ∧ tv.ownBlock ≠ some k) (ap3 : ∀ k, tv.ownBlock = some k → (Value.slice nA T.length nc).ownBlock ≠ some k)
    (ho : Ow iN 3 w8 B v8 (us.map Prod.snd ++ [u])) (hg : (w.alloc o).grownBy w8 tv.ownBlock) (hv : v8.ownBlock = tv.ownBlock ∨ v8.ownBlock = some (w.alloc o).heap.size) :
    RcAt (w8.setCell ⟨X, 3, none⟩ v8) B X R N rA rc nA nc v6 v8 ws b t e T top (us ++ [(a, u)]) scan full ∧ Below B w (w8.setCell ⟨X, 3, none⟩ v8) := by
  have hsz : w.heap.size ≤ (w.alloc o).heap.size := (Gw.alloc w o).size
  have lX := blk.lt
  have lN := nw.lt
  have l6 : B ≤ w.heap.size := by omega
  have K1 := Kept.grown hg
  have K2 := Kept.set w8 X 3 v8
  obtain ⟨n1, n2, n3⟩ := XN
  obtain ⟨x1, x3⟩ := ap X (.inl rfl)
  obtain ⟨y1, y3⟩ := ap N (.inr rfl)
  have lt8 := fun k hk => (to_.lt k hk)
  have l5 := fun k hk => (row.lt k hk)
  have lf := fun k hk => (fr.lt k hk)
  have n8 : ∀ k, v8.ownBlock = some k → k ≠ X ∧ k ≠ N ∧ v6.ownBlock ≠ some k ∧ (Value.slice nA T.length nc).ownBlock ≠ some k := by
    intro k hk
    rcases hv with h1 | h1
    · rw [hk] at h1
      exact ⟨fun e => x3 (e ▸ h1.symm), fun e => y3 (e ▸ h1.symm), fun e => (n6 k e).2.2.1 h1.symm, ap3 k h1.symm⟩
    · rw [hk] at h1
      injection h1 with h1
      exact ⟨by omega, by omega, fun e => by have := (lf k e).2; omega, fun e => by have := (l5 k e).2; omega⟩
  have b1 : Below B w (w.alloc o) := (Gw.alloc w o).mono l6
  have b2 : Below B (w.alloc o) w8 := K1.below (by omega) (fun k hk => (lt8 k hk).1)
  have b3 : Below B w8 (w8.setCell ⟨X, 3, none⟩ v8) := K2.below (by have := K1.size; omega) (fun k hk => by omega)
  have hs1 := src.below (Gw.alloc w o)
  refine ⟨⟨(hs1.belowB b2 K1.size RB rB).belowB b3 K2.size RB rB, RB, rB, ((blk.alloc o).grown hg (fun e => x3 e.symm)).set 3 v8, K2.bk ((nw.alloc o).grown hg (fun e => y3 e.symm)) (fun e => n1 e.symm), K2.ow (K1.ow (row.alloc o) (fun k hk e => ap3 k e hk)) (fun k hk e => x1 (e ▸ hk)), ?_, ?_, ⟨n1, n2, n3⟩, fun k hk => ?_, fun k hk => ⟨fun e => (n8 k e).2.2.1 hk, (n6 k hk).2.2.2⟩, fun k hk => (n8 k hk).2.2.2⟩, (b1.trans b2).trans b3⟩
  · rw [List.map_append]
    exact K2.ow (K1.ow (fr.alloc o) (fun k hk e => (n6 k hk).2.2.1 e)) (fun k hk e => (n6 k hk).1 e)
  · rw [List.map_append]
    exact K2.ow ho (fun k hk e => (n8 k hk).1 e)
  · refine ⟨(ap k hk).1, fun e => ?_, fun e => ?_⟩
    · rcases hk with hk | hk
      · exact (n6 k e).1 hk
      · exact (n6 k e).2.1 hk
    · rcases hk with hk | hk
      · exact (n8 k e).1 hk
      · exact (n8 k e).2.1 hk
end
end Go.Proofs.Ytbanbpphadgoiaa
/- The reference's copier: Move, where the object is copied. Conditions: lengths. -/
namespace Go.Proofs.Ytbanbpphadgoiaa
set_option linter.unusedVariables false
set_option linter.unusedSimpArgs false
open Go.RowKit Go.Maps
/-- The words of an object, laid at a new place. -/
def cpF (T ws : List (BitVec 64)) (u a : Nat) : Nat → List (BitVec 64)
  | 0 => T
  | k + 1 => (cpF T ws u a k).set (u + k) (ws.getD (a + k) 0#64)
theorem cpF_len (T ws : List (BitVec 64)) (u a : Nat) : ∀ k, (cpF T ws u a k).length = T.length
  | 0 => rfl
  | k + 1 => by unfold cpF; rw [List.length_set]; exact cpF_len T ws u a k
section
variable {B X R N : Nat} {rA : Option Addr} {rc : Nat} {nA : Option Addr} {nc : Nat} {fv tv : Value} {ws : List (BitVec 64)} {b t e : Nat} {T : List (BitVec 64)} {top : Nat} {us : List (Nat × Nat)} {scan : Nat} {full : Bool}
theorem RcAt.alloced {w w' : World} {A' : Option Addr} {c' : Nat} {T1 : List (BitVec 64)} {n : Nat} (h : RcAt w B X R N rA rc nA nc fv tv ws b t e T top us scan full) (hbk : Bk w' N 30 #[.slice A' T.length c', .int .i64 (0 : Nat), .int .i64 ((top + n : Nat) : Int), .int .i64 T.length]) (ho : Ow u64v 62 w' w.heap.size (.slice A' T.length c') T1) (hT : T1.length = T.length) (hg : w.grownBy w' (some N)) :
    RcAt w' B X R N rA rc A' c' fv tv ws b t e T1 (top + n) us scan full := by
  obtain ⟨l1, l2, l3, l4, l5, l6⟩ := h.lts
  have K := (Kept.grown hg).more (S' := fun k => k = N) (fun k hk => by injection hk with hk; exact hk.symm)
  obtain ⟨n1, n2, n3⟩ := h.XN
  obtain ⟨y1, y2, y3⟩ := h.ap N (.inr rfl)
  have hbB : Below B w w' := K.below l6 (fun k hk => by omega)
  have own := fun k hk => (ho.lt k hk).1
  rw [← hT] at hbk ho own
  refine ⟨h.src.belowB hbB K.size h.RB h.rB, h.RB, h.rB, K.bk h.blk n1, hbk, ho.mono l6, K.ow h.fr (fun k hk e => y2 (e ▸ hk)), K.ow h.to_ (fun k hk e => y3 (e ▸ hk)), h.XN, fun k hk => ⟨fun hq2 => ?_, (h.ap k hk).2.1, (h.ap k hk).2.2⟩, fun k hk => ⟨(h.ap2 k hk).1, fun hq2 => ?_⟩, fun k hk hq2 => ?_⟩
  · have h1 := own k hq2
    rcases hk with hk | hk <;> omega
  · have h1 := own k hq2
    have h2 := (l3 k hk).2
    omega
  · have h1 := own k hq2
    have h2 := (l4 k hk).2
    omega
set_option maxHeartbeats 1000000
set_option maxRecDepth 100000
end
end Go.Proofs.Ytbanbpphadgoiaa
