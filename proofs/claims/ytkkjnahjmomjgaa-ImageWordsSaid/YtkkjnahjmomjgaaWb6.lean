/- Texts joined: DeA ObL RbY RegT3 DeB ImA ImB DcB. -/
import Derived.Test.YtkkjnahjmomjgaaWb5
import Derived.Test.YtkkjnahjmomjgaaHdK
import Derived.Test.YtkkjnahjmomjgaaGrD
import Derived.Test.YtkkjnahjmomjgaaGtZ
import Derived.Test.YtkkjnahjmomjgaaGrO
import Derived.Laws.ResultCell
import Derived.Laws.Rows
/- loamref17.number. Conditions: places that rise. -/
namespace Go.Proofs.Ytkkjnahjmomjgaa
set_option linter.unusedVariables false
set_option linter.unusedSimpArgs false
open Go.RowKit Go.Maps
set_option maxHeartbeats 4000000
set_option maxRecDepth 100000
theorem number_c (w : World) (A : Option Addr) (c : Nat) (l : List Nat) (hr : Rd iN w w.heap.size A l) (hl : l.length ≤ 10000) (hb : ∀ y ∈ l, y < 8192) (hp : l.Pairwise (· < ·)) (x : BitVec 64) (h : x.toNat = 0 ∨ (1 ≤ x.toNat ∧ x.toNat - 1 ∈ l)) :
    Calls Try.prog 48 #[.slice A l.length c, .int .u64 (U64 x)] w (RetP (.int .i64 (numV l ((x.toNat : Int) - 1))) w) := by
  obtain ⟨R, hR⟩ : ∃ R, R = numV l ((x.toNat : Int) - 1) := ⟨_, rfl⟩
  rw [← hR]
  obtain ⟨m, hm⟩ : ∃ m : Nat, m = x.toNat := ⟨_, rfl⟩
  have hx : U64 x = (m : Int) := by rw [hm]; rfl
  rw [hx]
  rw [← hm] at hR h
  have mI : (m : Int) ≤ 8192 := by
    rcases h with h | ⟨_, h⟩
    · omega
    · have := hb _ h; omega
  obtain ⟨N, hN⟩ : ∃ N, N = l.length := ⟨_, rfl⟩
  have NI : (N : Int) ≤ 10000 := by omega
  have HX := Lib.hid (And.intro hr (And.intro hb (And.intro hp (And.intro h (And.intro hR hN)))))
  have HS0 : Hid (∀ j (hj : j < l.length), j < 0 → l[j] + 1 ≠ m) := Lib.hid (fun j hj h => absurd h (Nat.not_lt_zero _))
  rw [← hN]
  clear hr hl hb hp h hR hm hx hN
  go_enter Try.func48, Try.ntmps48
  go_wp2_with fail
  go_loopw [5] (fun x W => ∃ i : Nat, x = .int .i64 i ∧ i ≤ N ∧ W = w ∧ Hid (∀ j (hj : j < l.length), j < i → l[j] + 1 ≠ m)) (fun x _ => N - (Go.RowKit.intOf x).toNat)
  case atStart => exact ⟨0, rfl, Nat.zero_le _, rfl, HS0⟩
  case round =>
    obtain ⟨i, rfl, hi, rfl, hS⟩ := hrel
    clear HS0
    have i0 : (0 : Int) ≤ (i : Int) := by omega
    by_cases hlt : i < N
    · have i1 : (i : Int) < (N : Int) := by omega
      have hil : i < l.length := by have := HX.out.2.2.2.2.2; omega
      obtain ⟨ad, rfl, hadl, hc⟩ := HX.out.1 i hil
      obtain ⟨y, hy⟩ : ∃ y, y = l[i] := ⟨_, rfl⟩
      rw [← hy] at hc
      unfold iN at hc
      have y0 : (0 : Int) ≤ (y : Int) := by omega
      have y1 : (y : Int) ≤ 8192 := by have := HX.out.2.1 _ (List.getElem_mem hil); omega
      by_cases e : y + 1 = m
      · have e1 : (m : Int) = (y : Int) + 1 := by omega
        have hv := Lib.hid (show R = ((i + 1 : Nat) : Int) from by
          rw [HX.out.2.2.2.2.1, ← numV_at HX.out.2.2.1 hil, ← hy]
          congr 1
          omega)
        rw [e1]
        clear hy e hadl hS hil
        go_wp2_with fail
        go_ret
        exact ⟨by rw [hv.out]; rfl, Below.refl _ _⟩
      · have e1 : ¬ (m : Int) = (y : Int) + 1 := by omega
        have HN : Hid (∀ j (hj : j < l.length), j < i + 1 → l[j] + 1 ≠ m) := Lib.hid (fun j hj h1 => by
          by_cases h2 : j = i
          · subst h2; rw [← hy]; exact e
          · exact hS.out j hj (by omega))
        clear hy e hadl hS hil
        go_wp2_with fail
        go_roundw
        case rel => exact ⟨i + 1, by go_num, by omega, (by first | rfl | trivial), HN⟩
        case measure => simp [Go.RowKit.intOf]; omega
    · have i1 : ¬ (i : Int) < (N : Int) := by omega
      have hv := Lib.hid (show R = 0 from by
        rw [HX.out.2.2.2.2.1]
        rcases HX.out.2.2.2.1 with h | ⟨h1, h2⟩
        · rw [h]; exact numV_no l
        · obtain ⟨j, hj, e⟩ := List.getElem_of_mem h2
          exact absurd (show l[j] + 1 = m by omega) (hS.out j hj (by have := HX.out.2.2.2.2.2; omega)))
      clear hS hlt
      go_wp2_with fail
      go_ret
      exact ⟨by rw [hv.out]; rfl, Below.refl _ _⟩
end Go.Proofs.Ytkkjnahjmomjgaa
/- The reference's Well: among, Points. Conditions: lengths. (BEGUN: what builds stands here.) -/
namespace Go.Proofs.Ytkkjnahjmomjgaa
set_option linter.unusedVariables false
set_option linter.unusedSimpArgs false
open Go.RowKit
set_option maxHeartbeats 1000000
set_option maxRecDepth 100000
theorem among_c (w : World) (A : Option Addr) (c : Nat) (l : List Nat) (hr : Rd iN w w.heap.size A l) (hl : l.length ≤ 100000) (x : Int) :
    Calls Try.prog 103 #[.slice A l.length c, .int .i64 x] w (RetP (.bool (decide (∃ y ∈ l, (y : Int) = x))) w) := by
  obtain ⟨R, hR⟩ : ∃ R, R = decide (∃ y ∈ l, (y : Int) = x) := ⟨_, rfl⟩
  rw [← hR]
  obtain ⟨N, hN⟩ : ∃ N, N = l.length := ⟨_, rfl⟩
  rw [← hN]
  have qN : (N : Int) ≤ 100000 := by omega
  have HR := Lib.hid hR
  have HN := Lib.hid hN
  have HD := Lib.hid hr
  clear hR hN hr hl
  go_enter Try.func103, Try.ntmps103
  go_wp2_with fail
  go_loopw [5] (fun i W => ∃ k : Nat, i = .int .i64 k ∧ k ≤ N ∧ Hid (∀ y ∈ l.take k, (y : Int) ≠ x) ∧ Below w.heap.size w W) (fun i _ => N - (Go.RowKit.intOf i).toNat)
  case atStart => exact ⟨0, rfl, Nat.zero_le _, Lib.hid (by simp), Below.refl _ _⟩
  case round =>
    obtain ⟨k, rfl, hk, hS, hB⟩ := hrel
    by_cases hlt : k < N
    · have q1 : (0 : Int) ≤ (k : Int) := by omega
      have q2 : (k : Int) < (N : Int) := by omega
      have hkl : k < l.length := by rw [← HN.out]; exact hlt
      obtain ⟨yn, hyn⟩ : ∃ yn : Nat, l[k]? = some yn := ⟨_, List.getElem?_eq_getElem hkl⟩
      have hye : l[k] = yn := (List.getElem?_eq_some_iff.1 hyn).2
      obtain ⟨y, hy⟩ : ∃ y : Int, y = (yn : Int) := ⟨_, rfl⟩
      obtain ⟨ad, rfl, hcell⟩ : ∃ ad, A = some ad ∧ wr.cell? (ad.add k) = some (.int .i64 y) := by
        obtain ⟨ad, e, _, hc⟩ := (HD.out.below hB) k hkl
        exact ⟨ad, e, by rw [hy, ← hye]; exact hc⟩
      have HY := Lib.hid (show y = (yn : Int) ∧ yn ∈ l ∧ l.take (k + 1) = l.take k ++ [yn] from ⟨hy, List.mem_of_getElem? hyn, by rw [List.take_succ_eq_append_getElem hkl, hye]⟩)
      have HB := Lib.hid hB
      clear hy hye hyn hkl hB
      by_cases he : y = x
      · have hRt := Lib.hid (show R = true from by
          rw [HR.out]
          exact decide_eq_true ⟨yn, HY.out.2.1, by rw [← HY.out.1]; exact he⟩)
        go_wp2_with fail
        go_ret
        exact ⟨by rw [hRt.out]; rfl, HB.out⟩
      · have HX := Lib.hid (show ∀ z ∈ l.take (k + 1), (z : Int) ≠ x from by
          intro z hz
          rw [HY.out.2.2] at hz
          rcases List.mem_append.1 hz with hz | hz
          · exact hS.out z hz
          · rw [List.mem_singleton.1 hz, ← HY.out.1]; exact he)
        clear hS
        go_wp2_with fail
        go_roundw
        case rel => first | exact ⟨k + 1, by go_num, by omega, HX, HB.out⟩ | ((repeat apply Exists.intro); refine ⟨?_, rfl⟩; exact ⟨k + 1, by go_num, by omega, HX, HB.out⟩)
        case measure => simp [Go.RowKit.intOf]; omega
    · have hNk : N = k := by omega
      have hRf := Lib.hid (show R = false from by
        rw [HR.out]
        refine decide_eq_false ?_
        rintro ⟨y, hy, e⟩
        have := hS.out y (by rw [← hNk, HN.out, List.take_length]; exact hy)
        exact this e)
      have HB := Lib.hid hB
      clear hS hB hlt hk
      subst hNk
      go_wp2_with fail
      go_ret
      exact ⟨by rw [hRf.out]; rfl, HB.out⟩
theorem points_c (w : World) (A : Option Addr) (c : Nat) (l : List Nat) (hr : Rd iN w w.heap.size A l) (hl : l.length ≤ 100000) (hb : ∀ y ∈ l, y < 1073741824) (x : BitVec 64) :
    Calls Try.prog 81 #[.slice A l.length c, .int .u64 (U64 x)] w (RetP (.bool (decide (x.toNat = 0 ∨ (1 ≤ x.toNat ∧ x.toNat - 1 ∈ l)))) w) := by
  obtain ⟨R, hR⟩ : ∃ R, R = decide (x.toNat = 0 ∨ (1 ≤ x.toNat ∧ x.toNat - 1 ∈ l)) := ⟨_, rfl⟩
  rw [← hR]
  obtain ⟨m, hm⟩ : ∃ m : Nat, m = x.toNat := ⟨_, rfl⟩
  have hx : U64 x = (m : Int) := by rw [hm]; rfl
  rw [hx]
  rw [← hm] at hR
  have HA := Lib.hid (fun z => among_c w A c l hr hl z)
  have m1 : (m : Int) < 18446744073709551616 := by have := x.isLt; omega
  have m0 : (0 : Int) ≤ (m : Int) := by omega
  obtain ⟨N, hN⟩ : ∃ N, N = l.length := ⟨_, rfl⟩
  rw [← hN] at HA ⊢
  have HR := Lib.hid (And.intro hR hb)
  clear hr hl hb hx hm hR hN
  by_cases c0 : m = 0
  · subst c0
    have hT := Lib.hid (show R = true from by rw [HR.out.1]; exact decide_eq_true (.inl rfl))
    go_enter Try.func81, Try.ntmps81
    go_wp2_with fail
    go_ret
    exact ⟨by rw [hT.out]; rfl, Below.refl _ _⟩
  obtain ⟨d, hd⟩ : ∃ d : Nat, m = d + 1 := ⟨m - 1, by omega⟩
  obtain ⟨z, hz⟩ : ∃ z : Int, z = (m : Int) := ⟨_, rfl⟩
  rw [← hz]
  have z1 : (1 : Int) ≤ z := by omega
  have z2 : z < 18446744073709551616 := by omega
  have e1 : z - 1 = (d : Int) := by omega
  have n0 : z ≠ 0 := by omega
  have d1 : (d : Int) < 18446744073709551616 := by omega
  subst hd
  clear m1 m0 c0 hz
  by_cases c1 : (d : Int) < 1073741824
  · have hV := Lib.hid (show R = decide (∃ y ∈ l, (y : Int) = (d : Int)) from by
      rw [HR.out.1]
      refine decide_eq_decide.2 ⟨fun h => ?_, fun h => ?_⟩
      · rcases h with h | ⟨_, h⟩
        · omega
        · exact ⟨d, by simpa using h, rfl⟩
      · obtain ⟨y, hy, e⟩ := h
        right
        have : y = d := by omega
        subst this
        exact ⟨by omega, by simpa using hy⟩)
    have HC := Lib.hid (HA.out (d : Int))
    rw [← hV.out] at HC
    clear HA hV
    go_enter Try.func81, Try.ntmps81
    go_wp2_with fail
    refine Calls.mono HC.out ?_
    rintro r w1 ⟨rfl, b1⟩
    have HB := Lib.hid b1
    clear b1
    go_wp2_with fail
    go_ret
    exact ⟨by simp [n0], HB.out⟩
  · have hF := Lib.hid (show R = false from by
      rw [HR.out.1]
      refine decide_eq_false ?_
      rintro (h | ⟨_, h⟩)
      · omega
      · have := HR.out.2 _ h
        omega)
    clear HA
    go_enter Try.func81, Try.ntmps81
    go_wp2_with fail
    go_ret
    exact ⟨by rw [hF.out]; simp [n0], Below.refl _ _⟩
theorem byte_val (ws : List (BitVec 64)) (i r : Nat) (hr : i % 8 = r) : IntKind.u8.wrap (U64 (ws.getD (i / 8) 0#64) / ((2 ^ (8 * r) : Nat) : Int)) = U8 (byteAt ws i) := by
  unfold byteAt
  rw [hr]
  have e : U8 (((ws.getD (i / 8) 0#64) >>> (8 * r)).setWidth 8) = (((ws.getD (i / 8) 0#64).toNat / 2 ^ (8 * r) % 256 : Nat) : Int) := by
    unfold U8
    rw [BitVec.toNat_setWidth, BitVec.toNat_ushiftRight, Nat.shiftRight_eq_div_pow]
  rw [e, IntKind.wrap_u8]
  unfold U64
  rw [← Int.natCast_ediv]
  rfl
theorem rbyte_c (w : World) (A : Option Addr) (c : Nat) (ws : List (BitVec 64)) (hr : Rd u64v w w.heap.size A ws) (hl : ws.length ≤ 100000) (i : Nat) (hi : i < 8 * ws.length) :
    Calls Try.prog 83 #[.slice A ws.length c, .int .i64 i] w (RetP (.int .u8 (U8 (byteAt ws i))) w) := by
  obtain ⟨N, hN⟩ : ∃ N, N = ws.length := ⟨_, rfl⟩
  rw [← hN]
  have hq : i / 8 < ws.length := by omega
  obtain ⟨x, hx⟩ : ∃ x, x = U64 (ws.getD (i / 8) 0#64) := ⟨_, rfl⟩
  have hxx : u64v ws[i / 8] = .int .u64 x := by
    rw [hx]
    simp [List.getD, hq, u64v]
  obtain ⟨ad, rfl, hcell⟩ : ∃ ad, A = some ad ∧ w.cell? (ad.add (i / 8)) = some (.int .u64 x) := by
    obtain ⟨ad, e, _, hc⟩ := hr (i / 8) hq
    exact ⟨ad, e, by rw [← hxx]; exact hc⟩
  obtain ⟨Q, hQ⟩ : ∃ Q : Nat, Q = i / 8 := ⟨_, rfl⟩
  obtain ⟨I, hI⟩ : ∃ I : Int, I = (i : Int) := ⟨_, rfl⟩
  have e1 : I.tdiv 8 = (Q : Int) := by rw [hI, hQ]; rfl
  have e2 : I / 8 = (Q : Int) := by rw [hI, hQ]; rfl
  have e0 : (0 : Int) ≤ I := by omega
  have e5 : I ≤ 800000 := by omega
  have e3 : (0 : Int) ≤ (Q : Int) := by omega
  have e4 : (Q : Int) < (N : Int) := by omega
  have e6 : (N : Int) ≤ 100000 := by omega
  obtain ⟨r, hr8⟩ : ∃ r, i % 8 = r := ⟨_, rfl⟩
  have HV := Lib.hid (byte_val ws i r hr8)
  rw [← hx] at HV
  obtain ⟨y, hy⟩ : ∃ y, y = U8 (byteAt ws i) := ⟨_, rfl⟩
  rw [← hy] at HV ⊢
  have hm : I.tmod 8 = (r : Int) := by rw [hI, ← hr8]; rfl
  have hr9 : r < 8 := by omega
  rw [← hQ] at hcell
  rw [← hI]
  clear hr hl hi hN hq hx hxx hQ hI hr8 hy
  obtain rfl | rfl | rfl | rfl | rfl | rfl | rfl | rfl : r = 0 ∨ r = 1 ∨ r = 2 ∨ r = 3 ∨ r = 4 ∨ r = 5 ∨ r = 6 ∨ r = 7 := by omega
  · have h := HV.out
    rw [IntKind.wrap_u8, show (((2 ^ (8 * 0) : Nat) : Nat) : Int) = 1 from rfl, Int.ediv_one] at h
    have HE := Lib.hid h
    clear h HV
    go_enter Try.func83, Try.ntmps83
    go_wp2_with fail
    go_ret
    exact ⟨congrArg (fun z => Ending.returned (Value.int .u8 z)) HE.out, Below.refl _ _⟩
  all_goals
    have h := HV.out
    rw [IntKind.wrap_u8] at h
    have HE := Lib.hid h
    clear h HV
    go_enter Try.func83, Try.ntmps83
    go_wp2_with fail
    go_ret
    exact ⟨congrArg (fun z => Ending.returned (Value.int .u8 z)) HE.out, Below.refl _ _⟩
theorem pad_step (ws : List (BitVec 64)) (J k : Nat) (h : (bytesM ws J k).all (· == 0#8) = true) (hz : byteAt ws (J + k) = 0#8) : (bytesM ws J (k + 1)).all (· == 0#8) = true := by
  unfold bytesM at h ⊢
  rw [List.range_succ, List.map_append, List.all_append, h]
  simp [hz]
theorem pad_no (ws : List (BitVec 64)) (J k K : Nat) (hk : k < K) (hz : byteAt ws (J + k) ≠ 0#8) : padB ws J K = false := by
  unfold padB
  cases h : (bytesM ws J K).all (· == 0#8) with
  | false => rfl
  | true =>
    have := List.all_eq_true.1 h (byteAt ws (J + k)) (by unfold bytesM; exact List.mem_map.2 ⟨k, List.mem_range.2 hk, rfl⟩)
    exact absurd (by simpa using this) hz
theorem rpad_c (w : World) (R : Nat) (A : Option Addr) (c : Nat) (ws : List (BitVec 64)) (b t e : Nat) (p : RefAt w R A c ws b t e) (hl : ws.length ≤ 100000) (a P n S : Nat) (hP : P ≤ 64) (hn : n ≤ 1024) (hS : sizeH (P : Int) (n : Int) false 0 = (S : Int)) (hS2 : S ≤ 1000) (ha : a + S ≤ ws.length) (hJ : 8 * (a + 1 + P) + n ≤ 8 * (a + S)) :
    Calls Try.prog 102 #[.pointer (some ⟨R, 0, none⟩), .int .i64 a, .agg #[.int .i64 P, .int .i64 n, .bool false, .int .i64 0]] w (RetP (.bool (!padB ws (8 * (a + 1 + P) + n) (8 * (a + S) - (8 * (a + 1 + P) + n)))) w) := by
  obtain ⟨J, hJe⟩ : ∃ J, J = 8 * (a + 1 + P) + n := ⟨_, rfl⟩
  obtain ⟨K, hKe⟩ : ∃ K, K = 8 * (a + S) - J := ⟨_, rfl⟩
  obtain ⟨Z, hZ⟩ : ∃ Z, Z = padB ws J K := ⟨_, rfl⟩
  rw [← hJe, ← hKe, ← hZ]
  obtain ⟨T, hT⟩ : ∃ T, T = 8 * (a + S) := ⟨_, rfl⟩
  have eJ : 8 * ((a : Int) + 1 + (P : Int)) + (n : Int) = (J : Int) := by omega
  have eT : 8 * ((a : Int) + (S : Int)) = (T : Int) := by omega
  have f1 : (a : Int) ≤ 100000 := by omega
  have f2 : (P : Int) ≤ 64 := by omega
  have f3 : (n : Int) ≤ 1024 := by omega
  have f4 : (S : Int) ≤ 1000 := by omega
  have f5 : (J : Int) ≤ 1000000 := by omega
  have f6 : (T : Int) ≤ 1000000 := by omega
  have HF := Lib.hid (show J ≤ T ∧ K = T - J ∧ Z = padB ws J K ∧ T ≤ 8 * ws.length from ⟨by omega, by omega, hZ, by omega⟩)
  have HSz := Lib.hid (fun W => rsize_c (P : Int) (n : Int) false 0 W)
  rw [hS] at HSz
  have HBy := Lib.hid (fun W (hr : Rd u64v W W.heap.size A ws) (i : Nat) (hi : i < 8 * ws.length) => rbyte_c W A c ws hr hl i hi)
  obtain ⟨L, hL⟩ : ∃ L, L = ws.length := ⟨_, rfl⟩
  have hb0 := Gw.alloc w (.cells #[.int .i64 P, .int .i64 n, .bool false, .int .i64 0] 81)
  have hp0 := (p.below hb0)
  have hk0 := (Bk.new w 81 #[.int .i64 P, .int .i64 n, .bool false, .int .i64 0])
  rw [← hL] at HBy
  clear p hl hP hn hS hS2 ha hJ hJe hKe hZ hT
  go_enter Try.func102, Try.ntmps102
  go_wp2_with fail
  obtain ⟨W0, hW0⟩ : ∃ W0, W0 = (w.alloc (.cells #[.int .i64 P, .int .i64 n, .bool false, .int .i64 0] 81)) := ⟨_, rfl⟩
  obtain ⟨h, hh⟩ : ∃ h, h = w.heap.size := ⟨_, rfl⟩
  have H0 := Lib.hid (show RefAt W0 R A c ws b t e ∧ Bk W0 h 81 #[.int .i64 P, .int .i64 n, .bool false, .int .i64 0] ∧ Below w.heap.size w W0 ∧ L = ws.length from by rw [hW0, hh]; exact ⟨hp0, hk0, hb0, hL⟩)
  rw [← hW0, ← hh]
  clear hW0 hh hb0 hp0 hk0 hL
  go_loopw [8] (fun i W => ∃ j : Nat, i = .int .i64 j ∧ J ≤ j ∧ j ≤ T ∧ Hid ((bytesM ws J (j - J)).all (· == 0#8) = true) ∧ Hid (Below W0.heap.size W0 W)) (fun i _ => T - (Go.RowKit.intOf i).toNat)
  case atStart => exact ⟨J, rfl, Nat.le_refl _, HF.out.1, Lib.hid (by rw [Nat.sub_self]; rfl), Lib.hid (Below.refl _ _)⟩
  case round =>
    obtain ⟨j, rfl, hj1, hj2, hS, hB⟩ := hrel
    obtain ⟨c0, c1, c2, c3⟩ := (H0.out.2.1.below hB.out H0.out.2.1.lt).four
    have q0 : (0 : Int) ≤ (j : Int) := by omega
    go_wp2_with fail
    refine Calls.mono (HSz.out _) ?_
    rintro r w1 ⟨rfl, b1⟩
    have H1 := Lib.hid (show Below W0.heap.size W0 w1 from hB.out.trans (b1.mono hB.out.size))
    clear b1 c0 c1 c2 c3 hB
    by_cases hlt : j < T
    · have q1 : (j : Int) < (T : Int) := by omega
      obtain ⟨y, hy⟩ : ∃ y, y = byteAt ws j := ⟨_, rfl⟩
      have hp1 := H0.out.1.below H1.out
      have HBj := Lib.hid (HBy.out w1 hp1.rd j (by have h1 := HF.out.2.2.2; have h2 := H0.out.2.2.2; omega))
      rw [← hy] at HBj
      obtain ⟨d0, _⟩ := hp1.four
      rw [← H0.out.2.2.2] at d0
      clear hp1
      by_cases hz : y = 0#8
      · subst hz
        have HX := Lib.hid (show (bytesM ws J (j + 1 - J)).all (· == 0#8) = true from by
          rw [show j + 1 - J = j - J + 1 from by omega]
          exact pad_step ws J (j - J) hS.out (by rw [show J + (j - J) = j from by omega]; exact hy.symm))
        go_wp2_with fail
        refine Calls.mono HBj.out ?_
        rintro r w2 ⟨rfl, b2⟩
        have HB2 := Lib.hid (show Below W0.heap.size W0 w2 from H1.out.trans (b2.mono H1.out.size))
        have u0 : U8 0#8 = 0 := rfl
        rw [u0]
        clear b2 d0 hS
        go_wp2_with fail
        go_roundw
        case rel => first | exact ⟨j + 1, by go_num, by omega, by omega, HX, HB2⟩ | ((repeat apply Exists.intro); refine ⟨?_, rfl⟩; exact ⟨j + 1, by go_num, by omega, by omega, HX, HB2⟩)
        case measure => simp [Go.RowKit.intOf]; omega
      · have hZf := Lib.hid (show Z = false from by
          rw [HF.out.2.2.1]
          exact pad_no ws J (j - J) K (by have := HF.out.2.1; omega) (by rw [show J + (j - J) = j from by omega, ← hy]; exact hz))
        have u1 : U8 y ≠ 0 := by
          intro e
          refine hz (BitVec.eq_of_toNat_eq ?_)
          unfold U8 at e
          simpa using e
        obtain ⟨z, hzz⟩ : ∃ z, z = U8 y := ⟨_, rfl⟩
        rw [← hzz] at HBj u1
        clear hS hy hz hzz
        go_wp2_with fail
        refine Calls.mono HBj.out ?_
        rintro r w2 ⟨rfl, b2⟩
        have HB2 := Lib.hid (H0.out.2.2.1.trans ((H1.out.trans (b2.mono H1.out.size)).mono H0.out.2.2.1.size))
        clear b2 d0
        go_wp2_with fail
        go_ret
        exact ⟨by rw [hZf.out]; rfl, HB2.out⟩
    · have hTj : T = j := by omega
      have hZt := Lib.hid (show Z = true from by
        rw [HF.out.2.2.1, HF.out.2.1, hTj]
        exact hS.out)
      have HB2 := Lib.hid (H0.out.2.2.1.trans (H1.out.mono H0.out.2.2.1.size))
      clear hS hlt hj2
      subst hTj
      go_wp2_with fail
      go_ret
      exact ⟨by rw [hZt.out]; rfl, HB2.out⟩
end Go.Proofs.Ytkkjnahjmomjgaa
/- The document's Bytes. Conditions: lengths. -/
namespace Go.Proofs.Ytkkjnahjmomjgaa
set_option linter.unusedVariables false
set_option linter.unusedSimpArgs false
open Go.RowKit
set_option maxHeartbeats 4000000
set_option maxRecDepth 100000
theorem bytesM_snocR (ws : List (BitVec 64)) (a k : Nat) : bytesM ws a (k + 1) = bytesM ws a k ++ [byteAt ws (a + k)] := by
  unfold bytesM
  rw [List.range_succ, List.map_append]
  rfl
theorem rbytesR_c (w : World) (A : Option Addr) (c : Nat) (ws : List (BitVec 64)) (a n : Nat) (hr : Rd u64v w w.heap.size A ws) (ha : a + n ≤ 8 * ws.length) (hl : ws.length ≤ 8192) :
    Calls Try.prog 47 #[.slice A ws.length c, .int .i64 a, .int .i64 n] w (MkP b8 5 (bytesM ws a n) w) := by
  have HB := Lib.hid (fun W (hb : Below w.heap.size w W) (k : Nat) (hk : k < n) => rbyte_c W A c ws ((hr.below hb).more hb.size) (by omega) (a + k) (by omega))
  obtain ⟨N, hN⟩ : ∃ N, N = ws.length := ⟨_, rfl⟩
  rw [← hN] at HB ⊢
  have aI : (a : Int) ≤ 65536 := by omega
  have nI : (n : Int) ≤ 65536 := by omega
  have a0 : (0 : Int) ≤ (a : Int) := by omega
  have HL := Lib.hid (show n ≤ 65536 by omega)
  have HS0 : Hid (Ow b8 5 w w.heap.size (.slice none 0 0) (bytesM ws a 0) ∧ Below w.heap.size w w) := Lib.hid ⟨Ow.nil_ _ _ _ _, Below.refl _ _⟩
  clear hr ha hl hN
  go_enter Try.func47, Try.ntmps47
  go_wp2_with fail
  go_loopw [7, 8] (fun o x W => ∃ k : Nat, x = .int .i64 k ∧ k ≤ n ∧ Hid (Ow b8 5 W w.heap.size o (bytesM ws a k) ∧ Below w.heap.size w W)) (fun _ x _ => n - (Go.RowKit.intOf x).toNat)
  case atStart => exact ⟨0, rfl, Nat.zero_le _, HS0⟩
  case round =>
    obtain ⟨k, rfl, hk, hS⟩ := hrel
    clear HS0
    obtain ⟨e1, e2⟩ := hS.out
    have k0 : (0 : Int) ≤ (k : Int) := by omega
    have hbl : (bytesM ws a k).length = k := by unfold bytesM; simp
    obtain ⟨oA, oc, eo, hoc⟩ := e1.form
    rw [hbl] at eo
    by_cases hlt : k < n
    · have k1 : (k : Int) < (n : Int) := by omega
      have HBk := Lib.hid (HB.out wr e2 k hlt)
      obtain ⟨ak, hak⟩ : ∃ ak, ak = a + k := ⟨_, rfl⟩
      have hak2 : (a : Int) + (k : Int) = (ak : Int) := by omega
      obtain ⟨x, hx⟩ : ∃ x, x = byteAt ws (a + k) := ⟨_, rfl⟩
      rw [← hx, ← hak] at HBk
      have hsn : bytesM ws a (k + 1) = bytesM ws a k ++ [x] := by rw [bytesM_snocR, hx]
      have H0 := Lib.hid (And.intro e1 (And.intro e2 (And.intro hsn (show (bytesM ws a k).length + [x].length ≤ 4294967296 by rw [hbl]; have := HL.out; simp; omega))))
      have akI : (ak : Int) ≤ 131072 := by omega
      subst eo
      clear e1 e2 hS hbl hoc hak hx hsn hk
      go_wp2_with fail
      refine Calls.mono HBk.out ?_
      rintro r w6 ⟨rfl, b6⟩
      have H6 := Lib.hid (show Ow b8 5 w6 w.heap.size (.slice oA k oc) (bytesM ws a k) ∧ Below w.heap.size w w6 from ⟨H0.out.1.below b6, H0.out.2.1.trans (b6.mono H0.out.2.1.size)⟩)
      clear b6 HBk
      go_wp2_with (at_builtin; refine wp_app one8 b8_one rfl (.tmp 14) (.tmp 20) rfl w.heap.size _ (bytesM ws a k) rfl (H6.out.1.alloc _) (some ⟨w6.heap.size, 0, none⟩) 1 1 [x] rfl rfl (w6.heap.size + 1) (rd1_new rfl) H0.out.2.2.2 (by decide) (Nat.le_trans H6.out.2.size (Gw.alloc w6 _).size) ?_; intro v7 w7 ho7 hb7 hg7 hj7; rw [← H0.out.2.2.1] at ho7; have H7 := Lib.hid (show Ow b8 5 w7 w.heap.size v7 (bytesM ws a (k + 1)) ∧ Below w.heap.size w w7 from ⟨ho7, (H6.out.2.trans ((Gw.alloc w6 _).mono H6.out.2.size)).trans hb7⟩); clear ho7 hb7 hg7 hj7)
      go_roundw
      case rel => exact ⟨k + 1, by go_num, by omega, H7⟩
      case measure => simp [Go.RowKit.intOf]; omega
    · have k1 : ¬ (k : Int) < (n : Int) := by omega
      have hkn : k = n := by omega
      subst hkn
      have H0 := Lib.hid (And.intro e1 (And.intro e2 (And.intro eo (And.intro hoc hbl))))
      clear e1 e2 hS hoc hbl
      subst eo
      go_wp2_with fail
      go_ret
      obtain ⟨e1, e2, _, hoc, hbl⟩ := H0.out
      refine ⟨oA, oc, by rw [hbl]; rfl, hoc, by rw [hbl]; exact e1, e2⟩
end Go.Proofs.Ytkkjnahjmomjgaa
/- A region whose last three operations wait in a row, the first of them for all others: by facts for the others, and then those three. No conditions. -/
namespace Go.Proofs.Ytkkjnahjmomjgaa
set_option linter.unusedVariables false
set_option linter.unusedSimpArgs false
open Go.RowKit
section
variable {P : Program} {ops : Array Oper} {Q : Exit → Act → World → Prop} {G : World → World → Prop} {F : Nat → Value → World → Prop} {a0 : Act} {w0 : World}
theorem tail_one {n f : Nat} {listed : Array Bool} {a : Act} {w : World} (hsz : listed.size = ops.size) (held : ∀ i, i < ops.size → eldB ops i = true) (hn : n + 1 = ops.size) (hun : listed.getD n true = false) (hall : ∀ j, j < ops.size → j ≠ n → listed.getD j true = true) (hq : wpOp P ops Q n (fun a w => Q .normal a w) a w) : wpAny P .any ops Q (f + 1) listed a w := by
  have getT : ∀ (l : Array Bool) (k : Nat) (b c : Bool), k < l.size → l.getD k b = l.getD k c := by
    intro l k b c hk
    rw [Array.getD_eq_getD_getElem?, Array.getD_eq_getD_getElem?, Array.getElem?_eq_getElem hk]; rfl
  obtain ⟨o2, ho2, he2⟩ := eldB_out (held n (by omega))
  have hrd : n ∈ Region.ready .any ops listed := mem_ready.2 ⟨hun, o2, ho2, fun e hem hb => by
    have hlt2 := he2 e hem hb
    rw [getT _ _ false true (by omega)]
    exact hall e.on (by omega) (by omega)⟩
  refine ⟨fun hr => ?_, fun k hk => ?_⟩
  · exfalso
    rw [hr] at hrd
    cases hrd
  · obtain ⟨h2, o3, ho3, _⟩ := mem_ready.1 hk
    have hkl : k < ops.size := (Array.getElem?_eq_some_iff.1 ho3).1
    have hki : k = n := by
      by_cases e : k = n
      · exact e
      · rw [hall k hkl e] at h2; cases h2
    subst hki
    refine wpOp_mono (fun a2 w2 hq2 => ?_) hq
    refine wpAny_done ?_ hq2 f
    apply List.eq_nil_iff_forall_not_mem.2
    intro j hj
    obtain ⟨h5, o5, ho5, _⟩ := mem_ready.1 hj
    have hj2 : j < ops.size := (Array.getElem?_eq_some_iff.1 ho5).1
    rw [Array.getD_eq_getD_getElem?, Array.getElem?_setIfInBounds] at h5
    by_cases e : k = j
    · subst e
      rw [if_pos rfl] at h5
      simp [hsz, hj2] at h5
    · rw [if_neg e, ← Array.getD_eq_getD_getElem?, hall j hj2 (fun h => e h.symm)] at h5; cases h5
theorem tail_two {n f : Nat} {listed : Array Bool} {a : Act} {w : World} (hsz : listed.size = ops.size) (held : ∀ i, i < ops.size → eldB ops i = true) (hn : n + 2 = ops.size) (hw : waitsB ops (n + 1) n = true) (hun : listed.getD n true = false) (hun2 : listed.getD (n + 1) true = false) (hall : ∀ j, j < n → listed.getD j true = true) (hq : wpOp P ops Q n (fun a w => wpOp P ops Q (n + 1) (fun a w => Q .normal a w) a w) a w) : wpAny P .any ops Q (f + 2) listed a w := by
  have getT : ∀ (l : Array Bool) (k : Nat) (b c : Bool), k < l.size → l.getD k b = l.getD k c := by
    intro l k b c hk
    rw [Array.getD_eq_getD_getElem?, Array.getD_eq_getD_getElem?, Array.getElem?_eq_getElem hk]; rfl
  obtain ⟨o2, ho2, he2⟩ := eldB_out (held n (by omega))
  have hrd : n ∈ Region.ready .any ops listed := mem_ready.2 ⟨hun, o2, ho2, fun e hem hb => by
    have hlt2 := he2 e hem hb
    rw [getT _ _ false true (by omega)]
    exact hall e.on (by omega)⟩
  refine ⟨fun hr => ?_, fun k hk => ?_⟩
  · exfalso
    rw [hr] at hrd
    cases hrd
  · obtain ⟨h2, o3, ho3, hall3⟩ := mem_ready.1 hk
    have hkl : k < ops.size := (Array.getElem?_eq_some_iff.1 ho3).1
    have hki : k = n := by
      by_cases e : k = n
      · exact e
      · by_cases e2 : k = n + 1
        · exfalso
          subst e2
          obtain ⟨o', ho', e', he', hb', hon⟩ := waits_some hw
          rw [ho3] at ho'
          injection ho' with ho'
          subst ho'
          have h1 := hall3 e' he' hb'
          rw [hon, getT _ _ false true (by omega), hun] at h1
          cases h1
        · rw [hall k (by omega)] at h2; cases h2
    subst hki
    refine wpOp_mono (fun a2 w2 hq2 => ?_) hq
    have hset : ∀ j b, (listed.setIfInBounds k true).getD j b = if j = k then true else listed.getD j b := by
      intro j b
      rw [Array.getD_eq_getD_getElem?, Array.getD_eq_getD_getElem?, Array.getElem?_setIfInBounds]
      by_cases e : k = j
      · subst e; simp [show k < listed.size by omega]
      · rw [if_neg e, if_neg (fun h => e h.symm)]
    refine tail_one (n := k + 1) (by simp [hsz]) held (by omega) (by rw [hset, if_neg (by omega)]; exact hun2) (fun j hj hne => ?_) hq2
    rw [hset]
    by_cases e : j = k
    · rw [if_pos e]
    · rw [if_neg e]; exact hall j (by omega)
def regT3B (ops : Array Oper) (m size : Nat) : Bool :=
  ops.size == m + 3 && ((List.range m).all fun j => waitsB ops m j || (List.range m).any fun k => decide (j < k) && waitsB ops k j) && ((List.range (m + 3)).all fun i => eldB ops i) && ((List.range m).all fun i => ownB ops m size i) && (waitsB ops (m + 1) m && (waitsB ops (m + 2) (m + 1) && waitsB ops (m + 2) m))
theorem region_tail3 {id m : Nat} (hm : P.follows .mixedOrders = true) (hrefl : G w0 w0.drew) (htrans : ∀ a b c, G a b → G b c → G a c) (hmono : ∀ j, j < m → ∀ v a b, F j v a → G a b → F j v b)
    (hreg : regT3B ops m a0.tmps.size = true) (howes : ∀ i, i < m → Owes P ops Q G F a0 w0 i)
    (fin : ∀ (vals : Nat → Value) (w : World), G w0 w → (∀ j, j < m → F j (vals j) w) → wpOp P ops Q m (fun a w => wpOp P ops Q (m + 1) (fun a w => wpOp P ops Q (m + 2) (fun a w => Q .normal a w) a w) a w) (putL ops vals (List.range m) a0) w) :
    (Code.region id ops true).wp P Q a0 w0 := by
  unfold regT3B at hreg
  simp only [Bool.and_eq_true, beq_iff_eq, List.all_eq_true, List.mem_range] at hreg
  obtain ⟨⟨⟨⟨hsize, hwaits⟩, held⟩, hown⟩, hlast, hl21, hl20⟩ := hreg
  have held' : ∀ i, i < ops.size → eldB ops i = true := fun i hi => held i (by omega)
  have getT : ∀ (l : Array Bool) (k : Nat) (b c : Bool), k < l.size → l.getD k b = l.getD k c := by
    intro l k b c hk
    rw [Array.getD_eq_getD_getElem?, Array.getD_eq_getD_getElem?, Array.getElem?_eq_getElem hk]; rfl
  have main : ∀ (fuel : Nat) (listed : Array Bool) (a : Act) (w : World), listed.size = ops.size → listed.getD m true = false → listed.getD (m + 1) true = false → listed.getD (m + 2) true = false →
      ((List.range ops.size).filter fun j => !listed.getD j true).length ≤ fuel →
      G w0 w → a.defers = a0.defers → a.tmps.size = a0.tmps.size →
      (∀ j, j < m → listed.getD j true = true → F j (valAt ops a j) w) →
      (∀ t, (∀ j, j < m → listed.getD j true = true → dstOf ops j ≠ some t) → a.tmps.getD t undef = a0.tmps.getD t undef) →
      (∀ j, j < m → listed.getD j true = true → ∀ k, waitsB ops j k = true → listed.getD k false = true) →
      wpAny P .any ops Q fuel listed a w := by
    intro fuel
    induction fuel with
    | zero =>
      intro listed a w hsz hun hun2 hun3 hcnt
      exfalso
      have : m ∈ (List.range ops.size).filter fun j => !listed.getD j true := List.mem_filter.2 ⟨List.mem_range.2 (by omega), by simp only [hun]; rfl⟩
      rw [List.eq_nil_of_length_eq_zero (Nat.le_zero.1 hcnt)] at this
      cases this
    | succ fuel ih =>
      intro listed a w hsz hun hun2 hun3 hcnt hG hd hs hF hR hC
      refine ⟨fun hr => ?_, fun i hi => ?_⟩
      · exfalso
        have up : ∀ j, j < m + 3 → listed.getD j true = true := by
          intro j
          induction j using Nat.strongRecOn with
          | ind j ihj =>
            intro hj
            cases hl : listed.getD j true with
            | true => rfl
            | false =>
              exfalso
              obtain ⟨o, ho, he⟩ := eldB_out (held j hj)
              have : j ∈ Region.ready .any ops listed := mem_ready.2 ⟨hl, o, ho, fun e hem hb => by
                have hlt := he e hem hb
                rw [getT _ _ false true (by omega)]
                exact ihj e.on hlt (by omega)⟩
              rw [hr] at this
              cases this
        rw [up m (by omega)] at hun
        cases hun
      · obtain ⟨hui, o, ho, hall⟩ := mem_ready.1 hi
        have hlt : i < ops.size := (Array.getElem?_eq_some_iff.1 ho).1
        have hlz : i < listed.size := by omega
        have hw : ∀ j, waitsB ops i j = true → j < ops.size ∧ listed.getD j true = true := by
          intro j hj
          obtain ⟨o', ho', e, he, hb, rfl⟩ := waits_some hj
          rw [ho] at ho'
          injection ho' with ho'
          subst ho'
          have h1 := hall e he hb
          rcases Nat.lt_or_ge e.on listed.size with hl | hl
          · refine ⟨by omega, ?_⟩
            rw [getT _ _ true false hl]
            exact h1
          · rw [Array.getD_eq_getD_getElem?, Array.getElem?_eq_none hl] at h1; cases h1
        have hset : ∀ j b, (listed.setIfInBounds i true).getD j b = if j = i then true else listed.getD j b := by
          intro j b
          rw [Array.getD_eq_getD_getElem?, Array.getD_eq_getD_getElem?, Array.getElem?_setIfInBounds]
          by_cases e : i = j
          · subst e; simp [hlz]
          · rw [if_neg e, if_neg (fun h => e h.symm)]
        by_cases him : i = m
        · subst him
          have hall2 : ∀ n j, j < i → i - j ≤ n → listed.getD j true = true := by
            intro n
            induction n with
            | zero => intro j hj hn; omega
            | succ n ihn =>
              intro j hj hn
              have h1 := hwaits j hj
              rw [Bool.or_eq_true] at h1
              rcases h1 with h1 | h1
              · exact (hw j h1).2
              · rw [List.any_eq_true] at h1
                obtain ⟨k, hk, hkj⟩ := h1
                rw [Bool.and_eq_true, decide_eq_true_eq] at hkj
                have hki := List.mem_range.1 hk
                rw [getT _ _ true false (by omega)]
                exact hC k hki (ihn k hki (by omega)) j hkj.2
          have hall' : ∀ j, j < i → listed.getD j true = true := fun j hj => hall2 (i - j) j hj (Nat.le_refl _)
          have h1 := fin (valAt ops a) w hG (fun j hj => hF j hj (hall' j hj))
          rw [putL_whole a (List.range i) a0 hs.symm hd.symm] at h1
          · refine wpOp_mono (fun a' w' hq => ?_) h1
            obtain ⟨f1, rfl⟩ : ∃ f, fuel = f + 2 := by
              have h2 : ((List.range ops.size).filter fun j => !listed.getD j true).length ≤ fuel + 1 := hcnt
              have h4 := List.Nodup.length_le_of_subset (l₁ := [i, i + 1, i + 2]) (l₂ := (List.range ops.size).filter fun j => !listed.getD j true) (by simp) (fun x hx => by
                simp only [List.mem_cons, List.not_mem_nil, or_false] at hx
                rcases hx with rfl | rfl | rfl
                · exact List.mem_filter.2 ⟨List.mem_range.2 (by omega), by simp only [hun]; rfl⟩
                · exact List.mem_filter.2 ⟨List.mem_range.2 (by omega), by simp only [hun2]; rfl⟩
                · exact List.mem_filter.2 ⟨List.mem_range.2 (by omega), by simp only [hun3]; rfl⟩)
              simp only [List.length_cons, List.length_nil] at h4
              exact ⟨fuel - 2, by omega⟩
            refine tail_two (n := i + 1) (by simp [hsz]) held' (by omega) hl21 (by rw [hset, if_neg (by omega)]; exact hun2) (by rw [hset, if_neg (by omega)]; exact hun3) (fun j hj => ?_) hq
            rw [hset]
            by_cases e : j = i
            · rw [if_pos e]
            · rw [if_neg e]; exact hall' j (by omega)
          · intro t
            by_cases e : ∃ j, j < i ∧ dstOf ops j = some t
            · obtain ⟨j, hj, hjd⟩ := e
              exact .inr ⟨j, List.mem_range.2 hj, hjd⟩
            · left
              exact (hR t fun j hj _ he => e ⟨j, hj, he⟩).symm
        · have him2 : i ≠ m + 1 := fun e => by
            subst e
            have h9 := (hw m hlast).2
            rw [hun] at h9; cases h9
          have him3 : i ≠ m + 2 := fun e => by
            subst e
            have h9 := (hw m hl20).2
            rw [hun] at h9; cases h9
          have hi' : i < m := by omega
          obtain ⟨d, hdo, hdl, hdd⟩ := ownB_out (hown i hi')
          have hwm : ∀ j, waitsB ops i j = true → j < m := by
            intro j hj
            obtain ⟨o', ho', e, he, hb, rfl⟩ := waits_some hj
            obtain ⟨o2, ho2, he2⟩ := eldB_out (held i (by omega))
            rw [ho'] at ho2
            injection ho2 with ho2
            subst ho2
            have := he2 e he hb
            omega
          have hstep := howes i hi' a w hG hd hs (fun j hj => hF j (hwm j hj) (hw j hj).2) (fun t ht => hR t fun j hj hl he => by
            have h1 := hC j hj hl i (ht j he)
            rw [getT _ _ false true hlz, hui] at h1
            cases h1)
          refine wpOp_mono ?_ hstep
          rintro a' w' ⟨v, rfl, hg, hf⟩
          rw [hdo]
          refine ih (listed.setIfInBounds i true) (a.put (some d) v) w' (by simp [hsz]) (by rw [hset, if_neg (fun h => him h.symm)]; exact hun) (by rw [hset, if_neg (fun h => him2 h.symm)]; exact hun2) (by rw [hset, if_neg (fun h => him3 h.symm)]; exact hun3) ?_ (htrans _ _ _ hG hg) (by exact hd) (by rw [put_size, hs]) ?_ ?_ ?_
          · have := filter_less (p := fun j => !listed.getD j true) (q := fun j => !(listed.setIfInBounds i true).getD j true) (i := i) (l := List.range ops.size) (fun x hx => by
              rw [hset] at hx
              by_cases e : x = i
              · rw [if_pos e] at hx; cases hx
              · rw [if_neg e] at hx; exact hx) (List.mem_range.2 hlt) (by rw [hui]; rfl) (by rw [hset, if_pos rfl]; rfl)
            omega
          · intro j hj hl
            by_cases e : j = i
            · subst e
              unfold valAt
              rw [hdo]
              simp only
              rw [put_same _ _ _ (by rw [hs]; exact hdl)]
              exact hf
            · rw [hset, if_neg e] at hl
              have h1 := hmono j hj _ _ _ (hF j hj hl) hg
              have h2 : valAt ops (a.put (some d) v) j = valAt ops a j := by
                unfold valAt
                have hne := hdd j hj e
                cases hjd : dstOf ops j with
                | none => rfl
                | some dj =>
                  simp only
                  exact put_other _ _ _ _ (fun h => hne (by rw [hjd]; exact h.symm))
              rw [h2]
              exact h1
          · intro t ht
            have h1 : some d ≠ some t := fun h => ht i hi' (by rw [hset, if_pos rfl]) (by rw [hdo]; exact h)
            rw [put_other _ _ _ _ h1]
            exact hR t fun j hj hl => ht j hj (by rw [hset]; split <;> simp_all)
          · intro j hj hl k hk
            rw [hset]
            by_cases e : k = i
            · rw [if_pos e]
            · rw [if_neg e]
              by_cases e2 : j = i
              · subst e2
                have h1 := hw k hk
                rw [getT _ _ false true (by omega)]
                exact h1.2
              · rw [hset, if_neg e2] at hl
                exact hC j hj hl k hk
  refine wp_region_any hm ?_
  refine main ops.size (Array.replicate ops.size false) a0 w0.drew (by simp) ?_ ?_ ?_ ?_ hrefl rfl rfl ?_ ?_ ?_
  · rw [Array.getD_eq_getD_getElem?, Array.getElem?_eq_getElem (by simp; omega)]
    simp
  · rw [Array.getD_eq_getD_getElem?, Array.getElem?_eq_getElem (by simp; omega)]
    simp
  · rw [Array.getD_eq_getD_getElem?, Array.getElem?_eq_getElem (by simp; omega)]
    simp
  · exact Nat.le_trans (List.length_filter_le _ _) (by simp)
  · intro j hj hl
    rw [Array.getD_eq_getD_getElem?, Array.getElem?_eq_getElem (by simp; omega)] at hl
    simp at hl
  · intro t _; rfl
  · intro j hj hl
    rw [Array.getD_eq_getD_getElem?, Array.getElem?_eq_getElem (by simp; omega)] at hl
    simp at hl
/-- region_tail3, by lists. -/
theorem region_by_tail3 {id m : Nat} (Fs : List (Value → World → Prop)) (ds : List Tmp)
    (hm : P.follows .mixedOrders = true) (hrefl : G w0 w0.drew) (htrans : ∀ a b c, G a b → G b c → G a c)
    (hreg : regT3B ops m a0.tmps.size = true) (hds : (List.range' 0 m).map (dstOf ops) = ds.map some)
    (hmono : ∀ f ∈ Fs, ∀ v a b, f v a → G a b → f v b)
    (howes : AllN (Owes P ops Q G (fun j => Fs.getD j fun _ _ => True) a0 w0) m 0)
    (fin : ∀ (vals : Nat → Value) (w : World), G w0 w → (∀ j, j < m → (Fs.getD j fun _ _ => True) (vals j) w) → wpOp P ops Q m (fun a w => wpOp P ops Q (m + 1) (fun a w => wpOp P ops Q (m + 2) (fun a w => Q .normal a w) a w) a w) (putD vals ds 0 a0) w) :
    (Code.region id ops true).wp P Q a0 w0 := by
  refine region_tail3 (m := m) hm hrefl htrans ?_ hreg (fun i hi => howes.at_ _ _ i (by omega) (by omega)) ?_
  · intro j _ v a b h g
    rw [List.getD_eq_getElem?_getD] at h ⊢
    cases hj : Fs[j]? with
    | none => rw [hj] at h; exact trivial
    | some f => rw [hj] at h; exact hmono f (List.mem_of_getElem? hj) v a b h g
  · intro vals w hG hF
    rw [List.range_eq_range', putD_eq vals ds m 0 a0 hds]
    exact fin vals w hG hF
theorem next_spine3 {m n l : Nat} {d d2 d3 : Option Tmp} {op op2 op3 : Op} {type type2 type3 : TypeId} {a : Act} {w : World} (ho : (ops[m]?).map (fun o => (o.op, o.type)) = some (op, type)) (hdo : (ops[m]?).map (·.dst) = some d) (hg : (ops[m]?).bind (·.guard) = none)
    (ho2 : (ops[n]?).map (fun o => (o.op, o.type)) = some (op2, type2)) (hdo2 : (ops[n]?).map (·.dst) = some d2) (hg2 : (ops[n]?).bind (·.guard) = none)
    (ho3 : (ops[l]?).map (fun o => (o.op, o.type)) = some (op3, type3)) (hdo3 : (ops[l]?).map (·.dst) = some d3) (hg3 : (ops[l]?).bind (·.guard) = none)
    (h : wpList P #[{ dst := d, op, type, pos := "", after := #[], guard := none }] (SpineQ a.defers (fun _ => True) (fun a w => wpList P #[{ dst := d2, op := op2, type := type2, pos := "", after := #[], guard := none }] (SpineQ a.defers (fun _ => True) (fun a w => wpList P #[{ dst := d3, op := op3, type := type3, pos := "", after := #[], guard := none }] Q [{ dst := d3, op := op3, type := type3, pos := "", after := #[], guard := none }] a w)) [{ dst := d2, op := op2, type := type2, pos := "", after := #[], guard := none }] a w)) [{ dst := d, op, type, pos := "", after := #[], guard := none }] a w) :
    wpOp P ops Q m (fun a w => wpOp P ops Q n (fun a w => wpOp P ops Q l (fun a w => Q .normal a w) a w) a w) a w :=
  wpOp_weak (next_spine ho hdo hg h) fun _ _ h => next_spine2 ho2 hdo2 hg2 ho3 hdo3 hg3 h
end
end Go.Proofs.Ytkkjnahjmomjgaa
/- loamref17.Decode: the regions that draw their order. Conditions: lengths. -/
namespace Go.Proofs.Ytkkjnahjmomjgaa
set_option linter.unusedVariables false
set_option linter.unusedSimpArgs false
open Go.RowKit Go.Maps
set_option maxHeartbeats 4000000
set_option maxRecDepth 100000
def BsV (xs : List (BitVec 8)) (B : Nat) (v : Value) (W : World) : Prop := ∃ A c, v = .slice A xs.length c ∧ Ow b8 5 W B v xs
theorem BsV.mono {xs : List (BitVec 8)} {B : Nat} {v : Value} {a b : World} (h : BsV xs B v a) (hb : Below a.heap.size a b) : BsV xs B v b := by
  obtain ⟨A, c, e, h1⟩ := h
  exact ⟨A, c, e, h1.below hb⟩
def NdV (xs : List (BitVec 8)) (B : Nat) (v : Value) (W : World) : Prop := ∃ A c, v = .agg #[.slice none 0 0, .slice A xs.length c] ∧ Ow b8 5 W B (.slice A xs.length c) xs
theorem NdV.mono {xs : List (BitVec 8)} {B : Nat} {v : Value} {a b : World} (h : NdV xs B v a) (hb : Below a.heap.size a b) : NdV xs B v b := by
  obtain ⟨A, c, e, h1⟩ := h
  exact ⟨A, c, e, h1.below hb⟩
theorem NdV.of {xs : List (BitVec 8)} {B : Nat} {v : Value} {a : World} (h : BsV xs B v a) : NdV xs B (.agg #[.slice none 0 0, v]) a := by
  obtain ⟨A, c, rfl, h1⟩ := h
  exact ⟨A, c, rfl, h1⟩
/-- A fresh row of one number. -/
def IFv (z : Int) (B : Nat) (v : Value) (w : World) : Prop := ∃ q, v = .slice (some ⟨q, 0, none⟩) 1 1 ∧ B ≤ q ∧ Bk w q 3 #[.int .i64 z]
theorem IFv.mono {z : Int} {B : Nat} {v : Value} {a b : World} (h : IFv z B v a) (g : Below a.heap.size a b) : IFv z B v b := by
  obtain ⟨q, e, hq, h⟩ := h
  exact ⟨q, e, hq, h.below g h.lt⟩
/-- A fresh row of one Root. -/
def TFv (st : ByteArray) (z : Int) (B : Nat) (v : Value) (w : World) : Prop := ∃ q, v = .slice (some ⟨q, 0, none⟩) 1 1 ∧ B ≤ q ∧ Bk w q 59 #[.string st, .int .i64 z]
theorem TFv.mono {st : ByteArray} {z : Int} {B : Nat} {v : Value} {a b : World} (h : TFv st z B v a) (g : Below a.heap.size a b) : TFv st z B v b := by
  obtain ⟨q, e, hq, h⟩ := h
  exact ⟨q, e, hq, h.below g h.lt⟩
/-- A fresh node without anything. -/
def AFv (B : Nat) (v : Value) (w : World) : Prop := ∃ q, v = .pointer (some ⟨q, 0, none⟩) ∧ B ≤ q ∧ Bk w q 58 #[.slice none 0 0, .slice none 0 0]
theorem AFv.mono {B : Nat} {v : Value} {a b : World} (h : AFv B v a) (g : Below a.heap.size a b) : AFv B v b := by
  obtain ⟨q, e, hq, h⟩ := h
  exact ⟨q, e, hq, h.below g h.lt⟩
theorem ow_moreB {α : Type} {f : α → Value} {E : TypeId} {w : World} {b0 b1 : Nat} {v : Value} {xs : List α} (h : Ow f E w b1 v xs) (hb : b0 ≤ b1) : Ow f E w b0 v xs := by
  rcases h with ⟨h1, h2 | ⟨g, cap, cur, a, b, c⟩⟩
  · exact ⟨h1, .inl h2⟩
  · exact ⟨h1, .inr ⟨g, cap, cur, a, Nat.le_trans hb b, c⟩⟩
theorem bs_call {w : World} {A : Option Addr} {c j k : Nat} {ws : List (BitVec 64)} {B : Nat} (hB : B ≤ w.heap.size) (hr : Rd u64v w w.heap.size A ws) (h1 : j + k ≤ 8 * ws.length) (h8 : ws.length ≤ 8192) : Calls Try.prog 47 #[.slice A ws.length c, .int .i64 (j : Int), .int .i64 (k : Int)] w fun e w2 => ∃ u, e = .returned u ∧ Below w.heap.size w w2 ∧ BsV (bytesM ws j k) B u w2 := by
  refine (rbytesR_c w A c ws j k hr h1 h8).mono ?_
  rintro r w1 ⟨bA, bc, rfl, _, hob, b1⟩
  exact ⟨_, rfl, b1, bA, bc, rfl, ow_moreB hob hB⟩
theorem rd10 (Q : Exit → Act → World → Prop) (a0 : Act) (w : World) (i a N Hb P nb J M : Nat) (ad pd : Addr) (c pc : Nat) (xs : List (BitVec 8)) (hlt : (pd.add i).block < w.heap.size) (cp : w.cell? (pd.add i) = some (.int .i64 (a : Int))) (hH : Hb < w.heap.size) (g0 : w.cell? ⟨Hb, 0, none⟩ = some (.int .i64 (P : Int))) (g1 : w.cell? ⟨Hb, 1, none⟩ = some (.int .i64 (nb : Int))) (p0 : (0 : Int) ≤ (i : Int)) (p1 : (i : Int) < (M : Int)) (aa0 : (0 : Int) ≤ (a : Int)) (aa1 : (a : Int) ≤ 8192) (P1 : (P : Int) ≤ 64) (P0 : (0 : Int) ≤ (P : Int)) (hj : 8 * ((a : Int) + 1 + (P : Int)) = (J : Int)) (hp : Hid (∀ W, Below w.heap.size w W → Calls Try.prog 47 #[.slice (some ad) N c, .int .i64 (J : Int), .int .i64 (nb : Int)] W fun e w2 => ∃ u, e = .returned u ∧ Below W.heap.size W w2 ∧ BsV xs w.heap.size u w2)) (hsz : a0.tmps.size = 132) (sl0 : a0.tmps.getD 0 undef = .slice (some ad) N c) (sl5 : a0.tmps.getD 5 undef = .slice (some pd) M pc) (sl8 : a0.tmps.getD 8 undef = .int .i64 (i : Int)) (sl9 : a0.tmps.getD 9 undef = .pointer (some ⟨Hb, 0, none⟩))
    (fin : ∀ (vals : Nat → Value) (w1 : World), Below w.heap.size w w1 → (NdV xs w.heap.size) (vals 13) w1 → (AFv w.heap.size) (vals 14) w1 → wpList Try.prog #[{ dst := none, op := Go.Op.store 58 (Go.Operand.tmp 11) (Go.Operand.tmp 72), type := 0, pos := "", after := #[], guard := none }] Q [{ dst := none, op := Go.Op.store 58 (Go.Operand.tmp 11) (Go.Operand.tmp 72), type := 0, pos := "", after := #[], guard := none }] (putD vals [59, 60, 61, 62, 63, 64, 65, 66, 67, 68, 69, 70, 71, 72, 11] 0 a0) w1) :
    (Code.region 10 (regIn Try.f18 10) true).wp Try.prog Q a0 w := by
  refine region_by_tail (m := 15) (G := fun w w1 => Below w.heap.size w w1) [IsV (.slice (some ad) N c),
    IsV (.slice (some pd) M pc),
    IsV (.int .i64 (i : Int)),
    IsV (.pointer (some (pd.add i))),
    IsV (.int .i64 (a : Int)),
    IsV (.int .i64 ((a : Int) + 1)),
    IsV (.pointer (some ⟨Hb, 0, none⟩)),
    IsV (.int .i64 (P : Int)),
    IsV (.int .i64 ((a : Int) + 1 + (P : Int))),
    IsV (.int .i64 (J : Int)),
    IsV (.pointer (some ⟨Hb, 1, none⟩)),
    IsV (.int .i64 (nb : Int)),
    BsV xs w.heap.size,
    NdV xs w.heap.size,
    AFv w.heap.size]
    [59, 60, 61, 62, 63, 64, 65, 66, 67, 68, 69, 70, 71, 72, 11] (by kernel_rfl) (Gw.drew _) Gw.trans (by rw [hsz]; kernel_rfl) (by kernel_rfl) ?_ ?_ ?_
  · intro f hf
    simp only [List.mem_cons, List.not_mem_nil, or_false] at hf
    rcases hf with rfl | rfl | rfl | rfl | rfl | rfl | rfl | rfl | rfl | rfl | rfl | rfl | rfl | rfl | rfl <;> intro v a b h g <;> first | exact IsV.mono h | exact BsV.mono h g | exact NdV.mono h g | exact AFv.mono h g
  · refine ⟨?_, ?_, ?_, ?_, ?_, ?_, ?_, ?_, ?_, ?_, ?_, ?_, ?_, ?_, ?_, trivial⟩
    · exact owes_mv 0 (by kernel_rfl) (by kernel_rfl) (by kernel_rfl) sl0 (fun _ => rfl)
    · exact owes_mv 5 (by kernel_rfl) (by kernel_rfl) (by kernel_rfl) sl5 (fun _ => rfl)
    · exact owes_mv 8 (by kernel_rfl) (by kernel_rfl) (by kernel_rfl) sl8 (fun _ => rfl)
    · refine owes_v (Go.Op.indexAddr 49 (Go.Operand.tmp 60) (Go.Operand.tmp 61)) 0 [1, 2] (by kernel_rfl) (by kernel_rfl) (by kernel_rfl) rfl fun vals w1 ρ hG hF hρ hcst hfun => ?_
      have e60 : ρ (.tmp 60) = .slice (some pd) M pc := ((hρ 60).trans (slotJ [1, 2] (by rw [hsz]; decide) (by kernel_rfl))).trans (hF 1 (by decide))
      have e61 : ρ (.tmp 61) = .int .i64 (i : Int) := ((hρ 61).trans (slotJ [1, 2] (by rw [hsz]; decide) (by kernel_rfl))).trans (hF 2 (by decide))
      clear hρ hF hcst hfun sl0 sl5 sl8 sl9 fin
      exact opv_val (by go_simp <;> rfl) ⟨gw_self _, rfl⟩
    · refine owes_v (Go.Op.load 3 (Go.Operand.tmp 62)) 3 [3] (by kernel_rfl) (by kernel_rfl) (by kernel_rfl) rfl fun vals w1 ρ hG hF hρ hcst hfun => ?_
      have e62 : ρ (.tmp 62) = .pointer (some (pd.add i)) := ((hρ 62).trans (slotJ [3] (by rw [hsz]; decide) (by kernel_rfl))).trans (hF 3 (by decide))
      have kk := (hG.cell (p := pd.add i) hlt).trans cp
      clear hρ hF hcst hfun sl0 sl5 sl8 sl9 fin
      exact opv_val (by go_simp <;> rfl) ⟨gw_self _, rfl⟩
    · refine owes_v (Go.Op.binOp Go.BinOp.add 3 (Go.Operand.tmp 63) (Go.Operand.const (Go.Value.int Go.IntKind.i64 1)) 3) 3 [4] (by kernel_rfl) (by kernel_rfl) (by kernel_rfl) rfl fun vals w1 ρ hG hF hρ hcst hfun => ?_
      have e63 : ρ (.tmp 63) = .int .i64 (a : Int) := ((hρ 63).trans (slotJ [4] (by rw [hsz]; decide) (by kernel_rfl))).trans (hF 4 (by decide))
      have kw0 : IntKind.i64.wrap (((a : Int) + 1)) = ((a : Int) + 1) := wrapIn (by omega) (by omega)
      clear hρ hF hfun sl0 sl5 sl8 sl9 fin
      exact opv_val (by go_simp <;> rfl) ⟨gw_self _, rfl⟩
    · refine owes_v (Go.Op.fieldAddr 81 (Go.Operand.tmp 9) 0) 0 [] (by kernel_rfl) (by kernel_rfl) (by kernel_rfl) rfl fun vals w1 ρ hG hF hρ hcst hfun => ?_
      have e9 : ρ (.tmp 9) = .pointer (some ⟨Hb, 0, none⟩) := ((hρ 9).trans (slotO [] (by kernel_rfl))).trans sl9
      clear hρ hF hcst hfun sl0 sl5 sl8 sl9 fin
      exact opv_val (by go_simp <;> rfl) ⟨gw_self _, rfl⟩
    · refine owes_v (Go.Op.load 3 (Go.Operand.tmp 65)) 3 [6] (by kernel_rfl) (by kernel_rfl) (by kernel_rfl) rfl fun vals w1 ρ hG hF hρ hcst hfun => ?_
      have e65 : ρ (.tmp 65) = .pointer (some ⟨Hb, 0, none⟩) := ((hρ 65).trans (slotJ [6] (by rw [hsz]; decide) (by kernel_rfl))).trans (hF 6 (by decide))
      have kk := (hG.cell (p := ⟨Hb, 0, none⟩) hH).trans g0
      clear hρ hF hcst hfun sl0 sl5 sl8 sl9 fin
      exact opv_val (by go_simp <;> rfl) ⟨gw_self _, rfl⟩
    · refine owes_v (Go.Op.binOp Go.BinOp.add 3 (Go.Operand.tmp 64) (Go.Operand.tmp 66) 3) 3 [5, 7] (by kernel_rfl) (by kernel_rfl) (by kernel_rfl) rfl fun vals w1 ρ hG hF hρ hcst hfun => ?_
      have e64 : ρ (.tmp 64) = .int .i64 ((a : Int) + 1) := ((hρ 64).trans (slotJ [5, 7] (by rw [hsz]; decide) (by kernel_rfl))).trans (hF 5 (by decide))
      have e66 : ρ (.tmp 66) = .int .i64 (P : Int) := ((hρ 66).trans (slotJ [5, 7] (by rw [hsz]; decide) (by kernel_rfl))).trans (hF 7 (by decide))
      have kw0 : IntKind.i64.wrap (((a : Int) + 1 + (P : Int))) = ((a : Int) + 1 + (P : Int)) := wrapIn (by omega) (by omega)
      clear hρ hF hcst hfun sl0 sl5 sl8 sl9 fin
      exact opv_val (by go_simp <;> rfl) ⟨gw_self _, rfl⟩
    · refine owes_v (Go.Op.binOp Go.BinOp.mul 3 (Go.Operand.const (Go.Value.int Go.IntKind.i64 8)) (Go.Operand.tmp 67) 3) 3 [8] (by kernel_rfl) (by kernel_rfl) (by kernel_rfl) rfl fun vals w1 ρ hG hF hρ hcst hfun => ?_
      have e67 : ρ (.tmp 67) = .int .i64 ((a : Int) + 1 + (P : Int)) := ((hρ 67).trans (slotJ [8] (by rw [hsz]; decide) (by kernel_rfl))).trans (hF 8 (by decide))
      have kw0 : IntKind.i64.wrap ((J : Int)) = (J : Int) := wrapIn (by omega) (by omega)
      clear hρ hF hfun sl0 sl5 sl8 sl9 fin
      exact opv_val (by go_simp <;> rfl) ⟨gw_self _, rfl⟩
    · refine owes_v (Go.Op.fieldAddr 81 (Go.Operand.tmp 9) 1) 0 [] (by kernel_rfl) (by kernel_rfl) (by kernel_rfl) rfl fun vals w1 ρ hG hF hρ hcst hfun => ?_
      have e9 : ρ (.tmp 9) = .pointer (some ⟨Hb, 0, none⟩) := ((hρ 9).trans (slotO [] (by kernel_rfl))).trans sl9
      clear hρ hF hcst hfun sl0 sl5 sl8 sl9 fin
      exact opv_val (by go_simp <;> rfl) ⟨gw_self _, rfl⟩
    · refine owes_v (Go.Op.load 3 (Go.Operand.tmp 69)) 3 [10] (by kernel_rfl) (by kernel_rfl) (by kernel_rfl) rfl fun vals w1 ρ hG hF hρ hcst hfun => ?_
      have e69 : ρ (.tmp 69) = .pointer (some ⟨Hb, 1, none⟩) := ((hρ 69).trans (slotJ [10] (by rw [hsz]; decide) (by kernel_rfl))).trans (hF 10 (by decide))
      have kk := (hG.cell (p := ⟨Hb, 1, none⟩) hH).trans g1
      clear hρ hF hcst hfun sl0 sl5 sl8 sl9 fin
      exact opv_val (by go_simp <;> rfl) ⟨gw_self _, rfl⟩
    · refine owes_v (Go.Op.call { callee := Go.Callee.value (Go.Operand.func 47), args := #[Go.Operand.tmp 59, Go.Operand.tmp 68, Go.Operand.tmp 70], argTypes := #[33, 3, 3] }) 52 [0, 9, 11] (by kernel_rfl) (by kernel_rfl) (by kernel_rfl) rfl fun vals w1 ρ hG hF hρ hcst hfun => ?_
      have e59 : ρ (.tmp 59) = .slice (some ad) N c := ((hρ 59).trans (slotJ [0, 9, 11] (by rw [hsz]; decide) (by kernel_rfl))).trans (hF 0 (by decide))
      have e68 : ρ (.tmp 68) = .int .i64 (J : Int) := ((hρ 68).trans (slotJ [0, 9, 11] (by rw [hsz]; decide) (by kernel_rfl))).trans (hF 9 (by decide))
      have e70 : ρ (.tmp 70) = .int .i64 (nb : Int) := ((hρ 70).trans (slotJ [0, 9, 11] (by rw [hsz]; decide) (by kernel_rfl))).trans (hF 11 (by decide))
      clear hρ hF hcst sl0 sl5 sl8 sl9 fin
      exact opv_enter (by go_simp <;> rfl) ((hp.out w1 hG))
    · refine owes_v (Go.Op.build 58 #[(1, Go.Operand.tmp 71)]) 58 [12] (by kernel_rfl) (by kernel_rfl) (by kernel_rfl) rfl fun vals w1 ρ hG hF hρ hcst hfun => ?_
      have f71 : (BsV xs w.heap.size) (vals 12) w1 := hF 12 (by decide)
      have e71 : ρ (.tmp 71) = vals 12 := (hρ 71).trans (slotJ [12] (by rw [hsz]; decide) (by kernel_rfl))
      obtain ⟨A7, c7, h7, h7o⟩ := f71; rw [h7] at e71 h7o
      clear hρ hF hcst hfun sl0 sl5 sl8 sl9 fin
      exact opv_val (by go_simp <;> rfl) ⟨gw_self _, ⟨A7, c7, rfl, h7o⟩⟩
    · refine owes_v (Go.Op.alloc 58) 0 [] (by kernel_rfl) (by kernel_rfl) (by kernel_rfl) rfl fun vals w1 ρ hG hF hρ hcst hfun => ?_
      clear hρ hF hcst hfun sl0 sl5 sl8 sl9 fin
      exact opv_val (by go_simp <;> rfl) ⟨Gw.alloc _ _, ⟨_, rfl, hG.size, Bk.new w1 _ _⟩⟩
  · intro vals w1 hG hF
    exact last_list (by kernel_rfl) (by kernel_rfl) (by kernel_rfl) (fin vals w1 hG (hF 13 (by decide +kernel)) (hF 14 (by decide +kernel)))
theorem rd14 (Q : Exit → Act → World → Prop) (a0 : Act) (w : World) (i a k q N Xb M : Nat) (ad pd : Addr) (c pc : Nat) (sv : Value) (y z : Int) (hlt : (pd.add i).block < w.heap.size) (cp : w.cell? (pd.add i) = some (.int .i64 (a : Int))) (hX : Xb < w.heap.size) (g0 : w.cell? ⟨Xb, 0, none⟩ = some sv) (hq : (ad.add q).block < w.heap.size) (cq : w.cell? (ad.add q) = some (.int .u64 y)) (p0 : (0 : Int) ≤ (i : Int)) (p1 : (i : Int) < (M : Int)) (aa0 : (0 : Int) ≤ (a : Int)) (aa1 : (a : Int) ≤ 8192) (k0 : (0 : Int) ≤ (k : Int)) (k1 : (k : Int) ≤ 64) (hk : (a : Int) + 1 + (k : Int) = (q : Int)) (q0 : (0 : Int) ≤ (q : Int)) (q1 : (q : Int) < (N : Int)) (hp : Hid (∀ W, Below w.heap.size w W → Calls Try.prog 48 #[.slice (some pd) M pc, .int .u64 y] W (RetP (.int .i64 z) W))) (hsz : a0.tmps.size = 132) (sl0 : a0.tmps.getD 0 undef = .slice (some ad) N c) (sl5 : a0.tmps.getD 5 undef = .slice (some pd) M pc) (sl8 : a0.tmps.getD 8 undef = .int .i64 (i : Int)) (sl11 : a0.tmps.getD 11 undef = .pointer (some ⟨Xb, 0, none⟩)) (sl12 : a0.tmps.getD 12 undef = .int .i64 (k : Int))
    (fin : ∀ (vals : Nat → Value) (w1 : World), Below w.heap.size w w1 → (IsV sv) (vals 1) w1 → (IFv z w.heap.size) (vals 14) w1 → wpList Try.prog #[{ dst := some 94, op := Go.Op.call { callee := Go.Callee.builtin Go.Builtin.append, args := #[Go.Operand.tmp 80, Go.Operand.tmp 93], argTypes := #[49, 49] }, type := 49, pos := "", after := #[], guard := none }] (SpineQ (putD vals [79, 80, 81, 82, 83, 84, 85, 86, 87, 88, 89, 90, 91, 92, 93] 0 a0).defers (fun _ => True) (fun a w => wpList Try.prog #[{ dst := some 95, op := Go.Op.fieldAddr 58 (Go.Operand.tmp 11) 0, type := 0, pos := "", after := #[], guard := none }] (SpineQ a.defers (fun _ => True) (fun a w => wpList Try.prog #[{ dst := none, op := Go.Op.store 49 (Go.Operand.tmp 95) (Go.Operand.tmp 94), type := 0, pos := "", after := #[], guard := none }] Q [{ dst := none, op := Go.Op.store 49 (Go.Operand.tmp 95) (Go.Operand.tmp 94), type := 0, pos := "", after := #[], guard := none }] a w)) [{ dst := some 95, op := Go.Op.fieldAddr 58 (Go.Operand.tmp 11) 0, type := 0, pos := "", after := #[], guard := none }] a w)) [{ dst := some 94, op := Go.Op.call { callee := Go.Callee.builtin Go.Builtin.append, args := #[Go.Operand.tmp 80, Go.Operand.tmp 93], argTypes := #[49, 49] }, type := 49, pos := "", after := #[], guard := none }] (putD vals [79, 80, 81, 82, 83, 84, 85, 86, 87, 88, 89, 90, 91, 92, 93] 0 a0) w1) :
    (Code.region 14 (regIn Try.f18 14) true).wp Try.prog Q a0 w := by
  refine region_by_tail3 (m := 15) (G := fun w w1 => Below w.heap.size w w1) [IsV (.pointer (some ⟨Xb, 0, none⟩)),
    IsV sv,
    IsV (.slice (some pd) M pc),
    IsV (.slice (some ad) N c),
    IsV (.slice (some pd) M pc),
    IsV (.int .i64 (i : Int)),
    IsV (.pointer (some (pd.add i))),
    IsV (.int .i64 (a : Int)),
    IsV (.int .i64 ((a : Int) + 1)),
    IsV (.int .i64 (k : Int)),
    IsV (.int .i64 (q : Int)),
    IsV (.pointer (some (ad.add q))),
    IsV (.int .u64 y),
    IsV (.int .i64 z),
    IFv z w.heap.size]
    [79, 80, 81, 82, 83, 84, 85, 86, 87, 88, 89, 90, 91, 92, 93] (by kernel_rfl) (Gw.drew _) Gw.trans (by rw [hsz]; kernel_rfl) (by kernel_rfl) ?_ ?_ ?_
  · intro f hf
    simp only [List.mem_cons, List.not_mem_nil, or_false] at hf
    rcases hf with rfl | rfl | rfl | rfl | rfl | rfl | rfl | rfl | rfl | rfl | rfl | rfl | rfl | rfl | rfl <;> intro v a b h g <;> first | exact IsV.mono h | exact IFv.mono h g
  · refine ⟨?_, ?_, ?_, ?_, ?_, ?_, ?_, ?_, ?_, ?_, ?_, ?_, ?_, ?_, ?_, trivial⟩
    · refine owes_v (Go.Op.fieldAddr 58 (Go.Operand.tmp 11) 0) 0 [] (by kernel_rfl) (by kernel_rfl) (by kernel_rfl) rfl fun vals w1 ρ hG hF hρ hcst hfun => ?_
      have e11 : ρ (.tmp 11) = .pointer (some ⟨Xb, 0, none⟩) := ((hρ 11).trans (slotO [] (by kernel_rfl))).trans sl11
      clear hρ hF hcst hfun sl0 sl5 sl8 sl11 sl12 fin
      exact opv_val (by go_simp <;> rfl) ⟨gw_self _, rfl⟩
    · refine owes_v (Go.Op.load 49 (Go.Operand.tmp 79)) 49 [0] (by kernel_rfl) (by kernel_rfl) (by kernel_rfl) rfl fun vals w1 ρ hG hF hρ hcst hfun => ?_
      have e79 : ρ (.tmp 79) = .pointer (some ⟨Xb, 0, none⟩) := ((hρ 79).trans (slotJ [0] (by rw [hsz]; decide) (by kernel_rfl))).trans (hF 0 (by decide))
      have kk := (hG.cell (p := ⟨Xb, 0, none⟩) hX).trans g0
      clear hρ hF hcst hfun sl0 sl5 sl8 sl11 sl12 fin
      exact opv_val (by go_simp <;> rfl) ⟨gw_self _, rfl⟩
    · exact owes_mv 5 (by kernel_rfl) (by kernel_rfl) (by kernel_rfl) sl5 (fun _ => rfl)
    · exact owes_mv 0 (by kernel_rfl) (by kernel_rfl) (by kernel_rfl) sl0 (fun _ => rfl)
    · exact owes_mv 5 (by kernel_rfl) (by kernel_rfl) (by kernel_rfl) sl5 (fun _ => rfl)
    · exact owes_mv 8 (by kernel_rfl) (by kernel_rfl) (by kernel_rfl) sl8 (fun _ => rfl)
    · refine owes_v (Go.Op.indexAddr 49 (Go.Operand.tmp 83) (Go.Operand.tmp 84)) 0 [4, 5] (by kernel_rfl) (by kernel_rfl) (by kernel_rfl) rfl fun vals w1 ρ hG hF hρ hcst hfun => ?_
      have e83 : ρ (.tmp 83) = .slice (some pd) M pc := ((hρ 83).trans (slotJ [4, 5] (by rw [hsz]; decide) (by kernel_rfl))).trans (hF 4 (by decide))
      have e84 : ρ (.tmp 84) = .int .i64 (i : Int) := ((hρ 84).trans (slotJ [4, 5] (by rw [hsz]; decide) (by kernel_rfl))).trans (hF 5 (by decide))
      clear hρ hF hcst hfun sl0 sl5 sl8 sl11 sl12 fin
      exact opv_val (by go_simp <;> rfl) ⟨gw_self _, rfl⟩
    · refine owes_v (Go.Op.load 3 (Go.Operand.tmp 85)) 3 [6] (by kernel_rfl) (by kernel_rfl) (by kernel_rfl) rfl fun vals w1 ρ hG hF hρ hcst hfun => ?_
      have e85 : ρ (.tmp 85) = .pointer (some (pd.add i)) := ((hρ 85).trans (slotJ [6] (by rw [hsz]; decide) (by kernel_rfl))).trans (hF 6 (by decide))
      have kk := (hG.cell (p := pd.add i) hlt).trans cp
      clear hρ hF hcst hfun sl0 sl5 sl8 sl11 sl12 fin
      exact opv_val (by go_simp <;> rfl) ⟨gw_self _, rfl⟩
    · refine owes_v (Go.Op.binOp Go.BinOp.add 3 (Go.Operand.tmp 86) (Go.Operand.const (Go.Value.int Go.IntKind.i64 1)) 3) 3 [7] (by kernel_rfl) (by kernel_rfl) (by kernel_rfl) rfl fun vals w1 ρ hG hF hρ hcst hfun => ?_
      have e86 : ρ (.tmp 86) = .int .i64 (a : Int) := ((hρ 86).trans (slotJ [7] (by rw [hsz]; decide) (by kernel_rfl))).trans (hF 7 (by decide))
      have kw0 : IntKind.i64.wrap (((a : Int) + 1)) = ((a : Int) + 1) := wrapIn (by omega) (by omega)
      clear hρ hF hfun sl0 sl5 sl8 sl11 sl12 fin
      exact opv_val (by go_simp <;> rfl) ⟨gw_self _, rfl⟩
    · exact owes_mv 12 (by kernel_rfl) (by kernel_rfl) (by kernel_rfl) sl12 (fun _ => rfl)
    · refine owes_v (Go.Op.binOp Go.BinOp.add 3 (Go.Operand.tmp 87) (Go.Operand.tmp 88) 3) 3 [8, 9] (by kernel_rfl) (by kernel_rfl) (by kernel_rfl) rfl fun vals w1 ρ hG hF hρ hcst hfun => ?_
      have e87 : ρ (.tmp 87) = .int .i64 ((a : Int) + 1) := ((hρ 87).trans (slotJ [8, 9] (by rw [hsz]; decide) (by kernel_rfl))).trans (hF 8 (by decide))
      have e88 : ρ (.tmp 88) = .int .i64 (k : Int) := ((hρ 88).trans (slotJ [8, 9] (by rw [hsz]; decide) (by kernel_rfl))).trans (hF 9 (by decide))
      have kw0 : IntKind.i64.wrap ((q : Int)) = (q : Int) := wrapIn (by omega) (by omega)
      clear hρ hF hcst hfun sl0 sl5 sl8 sl11 sl12 fin
      exact opv_val (by go_simp <;> rfl) ⟨gw_self _, rfl⟩
    · refine owes_v (Go.Op.indexAddr 33 (Go.Operand.tmp 82) (Go.Operand.tmp 89)) 0 [3, 10] (by kernel_rfl) (by kernel_rfl) (by kernel_rfl) rfl fun vals w1 ρ hG hF hρ hcst hfun => ?_
      have e82 : ρ (.tmp 82) = .slice (some ad) N c := ((hρ 82).trans (slotJ [3, 10] (by rw [hsz]; decide) (by kernel_rfl))).trans (hF 3 (by decide))
      have e89 : ρ (.tmp 89) = .int .i64 (q : Int) := ((hρ 89).trans (slotJ [3, 10] (by rw [hsz]; decide) (by kernel_rfl))).trans (hF 10 (by decide))
      clear hρ hF hcst hfun sl0 sl5 sl8 sl11 sl12 fin
      exact opv_val (by go_simp <;> rfl) ⟨gw_self _, rfl⟩
    · refine owes_v (Go.Op.load 57 (Go.Operand.tmp 90)) 57 [11] (by kernel_rfl) (by kernel_rfl) (by kernel_rfl) rfl fun vals w1 ρ hG hF hρ hcst hfun => ?_
      have e90 : ρ (.tmp 90) = .pointer (some (ad.add q)) := ((hρ 90).trans (slotJ [11] (by rw [hsz]; decide) (by kernel_rfl))).trans (hF 11 (by decide))
      have kk := (hG.cell (p := ad.add q) hq).trans cq
      clear hρ hF hcst hfun sl0 sl5 sl8 sl11 sl12 fin
      exact opv_val (by go_simp <;> rfl) ⟨gw_self _, rfl⟩
    · refine owes_v (Go.Op.call { callee := Go.Callee.value (Go.Operand.func 48), args := #[Go.Operand.tmp 81, Go.Operand.tmp 91], argTypes := #[49, 57] }) 3 [2, 12] (by kernel_rfl) (by kernel_rfl) (by kernel_rfl) rfl fun vals w1 ρ hG hF hρ hcst hfun => ?_
      have e81 : ρ (.tmp 81) = .slice (some pd) M pc := ((hρ 81).trans (slotJ [2, 12] (by rw [hsz]; decide) (by kernel_rfl))).trans (hF 2 (by decide))
      have e91 : ρ (.tmp 91) = .int .u64 y := ((hρ 91).trans (slotJ [2, 12] (by rw [hsz]; decide) (by kernel_rfl))).trans (hF 12 (by decide))
      clear hρ hF hcst sl0 sl5 sl8 sl11 sl12 fin
      exact opv_enter (by go_simp <;> rfl) (of_ret (hp.out w1 hG))
    · refine owes_v (Go.Op.buildSlice 49 1 #[(0, Go.Operand.tmp 92)]) 49 [13] (by kernel_rfl) (by kernel_rfl) (by kernel_rfl) rfl fun vals w1 ρ hG hF hρ hcst hfun => ?_
      have e92 : ρ (.tmp 92) = .int .i64 z := ((hρ 92).trans (slotJ [13] (by rw [hsz]; decide) (by kernel_rfl))).trans (hF 13 (by decide))
      clear hρ hF hcst hfun sl0 sl5 sl8 sl11 sl12 fin
      exact opv_val (by go_simp <;> rfl) ⟨Gw.alloc _ _, ⟨_, rfl, hG.size, Bk.new w1 _ _⟩⟩
  · intro vals w1 hG hF
    exact next_spine3 (by kernel_rfl) (by kernel_rfl) (by kernel_rfl) (by kernel_rfl) (by kernel_rfl) (by kernel_rfl) (by kernel_rfl) (by kernel_rfl) (by kernel_rfl) (fin vals w1 hG (hF 1 (by decide +kernel)) (hF 14 (by decide +kernel)))
theorem rd20 (Q : Exit → Act → World → Prop) (a0 : Act) (w : World) (i q b5 b2 N Gb M : Nat) (ad : Addr) (pA : Option Addr) (c pc : Nat) (sv : Value) (st : ByteArray) (y z : Int) (hX : Gb < w.heap.size) (g1 : w.cell? ⟨Gb, 1, none⟩ = some sv) (hq : (ad.add q).block < w.heap.size) (cq : w.cell? (ad.add q) = some (.int .u64 y)) (p0 : (0 : Int) ≤ (i : Int)) (h5 : 5 * (i : Int) = (b5 : Int)) (h2 : 2 + (b5 : Int) = (b2 : Int)) (hk : (b2 : Int) + 4 = (q : Int)) (q0 : (0 : Int) ≤ (q : Int)) (q1 : (q : Int) < (N : Int)) (q2 : (q : Int) ≤ 8192) (hp : Hid (∀ W, Below w.heap.size w W → Calls Try.prog 48 #[.slice pA M pc, .int .u64 y] W (RetP (.int .i64 z) W))) (hsz : a0.tmps.size = 132) (sl0 : a0.tmps.getD 0 undef = .slice (some ad) N c) (sl5 : a0.tmps.getD 5 undef = .slice pA M pc) (sl7 : a0.tmps.getD 7 undef = .pointer (some ⟨Gb, 0, none⟩)) (sl13 : a0.tmps.getD 13 undef = .int .i64 (i : Int)) (sl14 : a0.tmps.getD 14 undef = .string st)
    (fin : ∀ (vals : Nat → Value) (w1 : World), Below w.heap.size w w1 → (IsV sv) (vals 1) w1 → (TFv st z w.heap.size) (vals 13) w1 → wpList Try.prog #[{ dst := some 129, op := Go.Op.call { callee := Go.Callee.builtin Go.Builtin.append, args := #[Go.Operand.tmp 116, Go.Operand.tmp 128], argTypes := #[29, 29] }, type := 29, pos := "", after := #[], guard := none }] (SpineQ (putD vals [115, 116, 117, 118, 119, 120, 121, 122, 123, 124, 125, 126, 127, 128] 0 a0).defers (fun _ => True) (fun a w => wpList Try.prog #[{ dst := some 130, op := Go.Op.fieldAddr 31 (Go.Operand.tmp 7) 1, type := 0, pos := "", after := #[], guard := none }] (SpineQ a.defers (fun _ => True) (fun a w => wpList Try.prog #[{ dst := none, op := Go.Op.store 29 (Go.Operand.tmp 130) (Go.Operand.tmp 129), type := 0, pos := "", after := #[], guard := none }] Q [{ dst := none, op := Go.Op.store 29 (Go.Operand.tmp 130) (Go.Operand.tmp 129), type := 0, pos := "", after := #[], guard := none }] a w)) [{ dst := some 130, op := Go.Op.fieldAddr 31 (Go.Operand.tmp 7) 1, type := 0, pos := "", after := #[], guard := none }] a w)) [{ dst := some 129, op := Go.Op.call { callee := Go.Callee.builtin Go.Builtin.append, args := #[Go.Operand.tmp 116, Go.Operand.tmp 128], argTypes := #[29, 29] }, type := 29, pos := "", after := #[], guard := none }] (putD vals [115, 116, 117, 118, 119, 120, 121, 122, 123, 124, 125, 126, 127, 128] 0 a0) w1) :
    (Code.region 20 (regIn Try.f18 20) true).wp Try.prog Q a0 w := by
  refine region_by_tail3 (m := 14) (G := fun w w1 => Below w.heap.size w w1) [IsV (.pointer (some ⟨Gb, 1, none⟩)),
    IsV sv,
    IsV (.string st),
    IsV (.slice pA M pc),
    IsV (.slice (some ad) N c),
    IsV (.int .i64 (i : Int)),
    IsV (.int .i64 (b5 : Int)),
    IsV (.int .i64 (b2 : Int)),
    IsV (.int .i64 (q : Int)),
    IsV (.pointer (some (ad.add q))),
    IsV (.int .u64 y),
    IsV (.int .i64 z),
    IsV (.agg #[.string st, .int .i64 z]),
    TFv st z w.heap.size]
    [115, 116, 117, 118, 119, 120, 121, 122, 123, 124, 125, 126, 127, 128] (by kernel_rfl) (Gw.drew _) Gw.trans (by rw [hsz]; kernel_rfl) (by kernel_rfl) ?_ ?_ ?_
  · intro f hf
    simp only [List.mem_cons, List.not_mem_nil, or_false] at hf
    rcases hf with rfl | rfl | rfl | rfl | rfl | rfl | rfl | rfl | rfl | rfl | rfl | rfl | rfl | rfl <;> intro v a b h g <;> first | exact IsV.mono h | exact TFv.mono h g
  · refine ⟨?_, ?_, ?_, ?_, ?_, ?_, ?_, ?_, ?_, ?_, ?_, ?_, ?_, ?_, trivial⟩
    · refine owes_v (Go.Op.fieldAddr 31 (Go.Operand.tmp 7) 1) 0 [] (by kernel_rfl) (by kernel_rfl) (by kernel_rfl) rfl fun vals w1 ρ hG hF hρ hcst hfun => ?_
      have e7 : ρ (.tmp 7) = .pointer (some ⟨Gb, 0, none⟩) := ((hρ 7).trans (slotO [] (by kernel_rfl))).trans sl7
      clear hρ hF hcst hfun sl0 sl5 sl7 sl13 sl14 fin
      exact opv_val (by go_simp <;> rfl) ⟨gw_self _, rfl⟩
    · refine owes_v (Go.Op.load 29 (Go.Operand.tmp 115)) 29 [0] (by kernel_rfl) (by kernel_rfl) (by kernel_rfl) rfl fun vals w1 ρ hG hF hρ hcst hfun => ?_
      have e115 : ρ (.tmp 115) = .pointer (some ⟨Gb, 1, none⟩) := ((hρ 115).trans (slotJ [0] (by rw [hsz]; decide) (by kernel_rfl))).trans (hF 0 (by decide))
      have kk := (hG.cell (p := ⟨Gb, 1, none⟩) hX).trans g1
      clear hρ hF hcst hfun sl0 sl5 sl7 sl13 sl14 fin
      exact opv_val (by go_simp <;> rfl) ⟨gw_self _, rfl⟩
    · exact owes_mv 14 (by kernel_rfl) (by kernel_rfl) (by kernel_rfl) sl14 (fun _ => rfl)
    · exact owes_mv 5 (by kernel_rfl) (by kernel_rfl) (by kernel_rfl) sl5 (fun _ => rfl)
    · exact owes_mv 0 (by kernel_rfl) (by kernel_rfl) (by kernel_rfl) sl0 (fun _ => rfl)
    · exact owes_mv 13 (by kernel_rfl) (by kernel_rfl) (by kernel_rfl) sl13 (fun _ => rfl)
    · refine owes_v (Go.Op.binOp Go.BinOp.mul 3 (Go.Operand.const (Go.Value.int Go.IntKind.i64 5)) (Go.Operand.tmp 120) 3) 3 [5] (by kernel_rfl) (by kernel_rfl) (by kernel_rfl) rfl fun vals w1 ρ hG hF hρ hcst hfun => ?_
      have e120 : ρ (.tmp 120) = .int .i64 (i : Int) := ((hρ 120).trans (slotJ [5] (by rw [hsz]; decide) (by kernel_rfl))).trans (hF 5 (by decide))
      have kw0 : IntKind.i64.wrap ((b5 : Int)) = (b5 : Int) := wrapIn (by omega) (by omega)
      clear hρ hF hfun sl0 sl5 sl7 sl13 sl14 fin
      exact opv_val (by go_simp <;> rfl) ⟨gw_self _, rfl⟩
    · refine owes_v (Go.Op.binOp Go.BinOp.add 3 (Go.Operand.const (Go.Value.int Go.IntKind.i64 2)) (Go.Operand.tmp 121) 3) 3 [6] (by kernel_rfl) (by kernel_rfl) (by kernel_rfl) rfl fun vals w1 ρ hG hF hρ hcst hfun => ?_
      have e121 : ρ (.tmp 121) = .int .i64 (b5 : Int) := ((hρ 121).trans (slotJ [6] (by rw [hsz]; decide) (by kernel_rfl))).trans (hF 6 (by decide))
      have kw0 : IntKind.i64.wrap ((b2 : Int)) = (b2 : Int) := wrapIn (by omega) (by omega)
      clear hρ hF hfun sl0 sl5 sl7 sl13 sl14 fin
      exact opv_val (by go_simp <;> rfl) ⟨gw_self _, rfl⟩
    · refine owes_v (Go.Op.binOp Go.BinOp.add 3 (Go.Operand.tmp 122) (Go.Operand.const (Go.Value.int Go.IntKind.i64 4)) 3) 3 [7] (by kernel_rfl) (by kernel_rfl) (by kernel_rfl) rfl fun vals w1 ρ hG hF hρ hcst hfun => ?_
      have e122 : ρ (.tmp 122) = .int .i64 (b2 : Int) := ((hρ 122).trans (slotJ [7] (by rw [hsz]; decide) (by kernel_rfl))).trans (hF 7 (by decide))
      have kw0 : IntKind.i64.wrap ((q : Int)) = (q : Int) := wrapIn (by omega) (by omega)
      clear hρ hF hfun sl0 sl5 sl7 sl13 sl14 fin
      exact opv_val (by go_simp <;> rfl) ⟨gw_self _, rfl⟩
    · refine owes_v (Go.Op.indexAddr 33 (Go.Operand.tmp 119) (Go.Operand.tmp 123)) 0 [4, 8] (by kernel_rfl) (by kernel_rfl) (by kernel_rfl) rfl fun vals w1 ρ hG hF hρ hcst hfun => ?_
      have e119 : ρ (.tmp 119) = .slice (some ad) N c := ((hρ 119).trans (slotJ [4, 8] (by rw [hsz]; decide) (by kernel_rfl))).trans (hF 4 (by decide))
      have e123 : ρ (.tmp 123) = .int .i64 (q : Int) := ((hρ 123).trans (slotJ [4, 8] (by rw [hsz]; decide) (by kernel_rfl))).trans (hF 8 (by decide))
      clear hρ hF hcst hfun sl0 sl5 sl7 sl13 sl14 fin
      exact opv_val (by go_simp <;> rfl) ⟨gw_self _, rfl⟩
    · refine owes_v (Go.Op.load 57 (Go.Operand.tmp 124)) 57 [9] (by kernel_rfl) (by kernel_rfl) (by kernel_rfl) rfl fun vals w1 ρ hG hF hρ hcst hfun => ?_
      have e124 : ρ (.tmp 124) = .pointer (some (ad.add q)) := ((hρ 124).trans (slotJ [9] (by rw [hsz]; decide) (by kernel_rfl))).trans (hF 9 (by decide))
      have kk := (hG.cell (p := ad.add q) hq).trans cq
      clear hρ hF hcst hfun sl0 sl5 sl7 sl13 sl14 fin
      exact opv_val (by go_simp <;> rfl) ⟨gw_self _, rfl⟩
    · refine owes_v (Go.Op.call { callee := Go.Callee.value (Go.Operand.func 48), args := #[Go.Operand.tmp 118, Go.Operand.tmp 125], argTypes := #[49, 57] }) 3 [3, 10] (by kernel_rfl) (by kernel_rfl) (by kernel_rfl) rfl fun vals w1 ρ hG hF hρ hcst hfun => ?_
      have e118 : ρ (.tmp 118) = .slice pA M pc := ((hρ 118).trans (slotJ [3, 10] (by rw [hsz]; decide) (by kernel_rfl))).trans (hF 3 (by decide))
      have e125 : ρ (.tmp 125) = .int .u64 y := ((hρ 125).trans (slotJ [3, 10] (by rw [hsz]; decide) (by kernel_rfl))).trans (hF 10 (by decide))
      clear hρ hF hcst sl0 sl5 sl7 sl13 sl14 fin
      exact opv_enter (by go_simp <;> rfl) (of_ret (hp.out w1 hG))
    · refine owes_v (Go.Op.build 59 #[(0, Go.Operand.tmp 117), (1, Go.Operand.tmp 126)]) 59 [2, 11] (by kernel_rfl) (by kernel_rfl) (by kernel_rfl) rfl fun vals w1 ρ hG hF hρ hcst hfun => ?_
      have e117 : ρ (.tmp 117) = .string st := ((hρ 117).trans (slotJ [2, 11] (by rw [hsz]; decide) (by kernel_rfl))).trans (hF 2 (by decide))
      have e126 : ρ (.tmp 126) = .int .i64 z := ((hρ 126).trans (slotJ [2, 11] (by rw [hsz]; decide) (by kernel_rfl))).trans (hF 11 (by decide))
      clear hρ hF hcst hfun sl0 sl5 sl7 sl13 sl14 fin
      exact opv_val (by go_simp <;> rfl) ⟨gw_self _, rfl⟩
    · refine owes_v (Go.Op.buildSlice 29 1 #[(0, Go.Operand.tmp 127)]) 29 [12] (by kernel_rfl) (by kernel_rfl) (by kernel_rfl) rfl fun vals w1 ρ hG hF hρ hcst hfun => ?_
      have e127 : ρ (.tmp 127) = .agg #[.string st, .int .i64 z] := ((hρ 127).trans (slotJ [12] (by rw [hsz]; decide) (by kernel_rfl))).trans (hF 12 (by decide))
      clear hρ hF hcst hfun sl0 sl5 sl7 sl13 sl14 fin
      exact opv_val (by go_simp <;> rfl) ⟨Gw.alloc _ _, ⟨_, rfl, hG.size, Bk.new w1 _ _⟩⟩
  · intro vals w1 hG hF
    exact next_spine3 (by kernel_rfl) (by kernel_rfl) (by kernel_rfl) (by kernel_rfl) (by kernel_rfl) (by kernel_rfl) (by kernel_rfl) (by kernel_rfl) (by kernel_rfl) (fin vals w1 hG (hF 1 (by decide +kernel)) (hF 13 (by decide +kernel)))
end Go.Proofs.Ytkkjnahjmomjgaa
/- How image.Encode lays a graph's words, as lists (pure). No conditions. -/
namespace Go.Proofs.Ytkkjnahjmomjgaa
set_option linter.unusedVariables false
set_option linter.unusedSimpArgs false
open Go.RowKit
set_option maxHeartbeats 1000000
theorem setMid {α : Type} : ∀ (A : List α) (x y : α) (B : List α), (A ++ x :: B).set A.length y = A ++ y :: B
  | [], _, _, _ => rfl
  | a :: A, x, y, B => by
    rw [List.cons_append, List.length_cons, List.set_cons_succ, setMid A x y B]
    rfl
theorem byte_app (A B : List (BitVec 64)) (j : Nat) : byteAt (A ++ B) j = if j < 8 * A.length then byteAt A j else byteAt B (j - 8 * A.length) := by
  unfold byteAt
  by_cases h : j < 8 * A.length
  · rw [if_pos h, app_getL _ _ _ (by omega)]
  · have e := app_getD A B 0#64 (i := (j - 8 * A.length) / 8) rfl
    rw [show A.length + (j - 8 * A.length) / 8 = j / 8 from by omega] at e
    rw [if_neg h, e, show (j - 8 * A.length) % 8 = j % 8 from by omega]
theorem byte_zero (m j : Nat) : byteAt (List.replicate m 0#64) j = 0#8 := by
  have e : (List.replicate m 0#64).getD (j / 8) 0#64 = 0#64 := by
    rw [List.getD_eq_getElem?_getD, List.getElem?_replicate]
    split <;> rfl
  unfold byteAt
  rw [e]
  simp
theorem words_ext {X Y : List (BitVec 64)} (hl : X.length = Y.length) (h : ∀ j, j < 8 * X.length → byteAt X j = byteAt Y j) : X = Y := by
  apply List.ext_getElem hl
  intro q h1 h2
  apply BitVec.eq_of_getLsbD_eq
  intro i hi
  have e := h (8 * q + i / 8) (by omega)
  have eX : X.getD q 0#64 = X[q] := by rw [List.getD_eq_getElem?_getD, List.getElem?_eq_getElem h1]; rfl
  have eY : Y.getD q 0#64 = Y[q] := by rw [List.getD_eq_getElem?_getD, List.getElem?_eq_getElem h2]; rfl
  have b1 := byteAt_bit X (8 * q + i / 8) (i % 8) (by omega)
  have b2 := byteAt_bit Y (8 * q + i / 8) (i % 8) (by omega)
  rw [show (8 * q + i / 8) / 8 = q from by omega, show 8 * ((8 * q + i / 8) % 8) + i % 8 = i from by omega] at b1 b2
  rw [eX] at b1
  rw [eY] at b2
  rw [← b1, ← b2, e]
/-- Bytes laid over words that are 0. -/
theorem putK_mid (A C : List (BitVec 64)) (bs : List (BitVec 8)) (m a : Nat) (hm : m = (bs.length + 7) / 8) (ha : a = 8 * A.length) : putK (A ++ List.replicate m 0#64 ++ C) a bs bs.length = A ++ wordsW bs ++ C := by
  have hlw : (wordsW bs).length = m := by rw [wordsW_len, hm]
  have hlX : (A ++ List.replicate m 0#64 ++ C).length = A.length + m + C.length := by rw [List.length_append, List.length_append, List.length_replicate]
  apply words_ext
  · rw [putK_len, List.length_append, List.length_append, List.length_replicate, List.length_append, List.length_append, hlw]
  · intro j hj
    rw [putK_len, hlX] at hj
    rw [byteAt_putK _ _ _ _ _ (by rw [hlX]; omega), byte_app, byte_app, byte_app (A ++ wordsW bs), byte_app A (wordsW bs)]
    simp only [List.length_append, List.length_replicate, hlw]
    by_cases h1 : j < 8 * A.length
    · have h1' : j < 8 * (A.length + m) := by omega
      rw [if_neg (by omega)]
      simp only [h1, h1', if_true]
    · by_cases h2 : j < 8 * (A.length + m)
      · have e := byte_words (ws := wordsW bs) (a := 0) (bs := bs) (fun i _ => by rw [Nat.zero_add]) (j - 8 * A.length) (by omega)
        rw [Nat.mul_zero, Nat.zero_add] at e
        simp only [h1, h2, if_true, if_false]
        rw [e, byte_zero]
        by_cases h3 : j < a + bs.length
        · rw [if_pos ⟨by omega, h3⟩, ha]
        · rw [if_neg (by omega), List.getD_eq_getElem?_getD, List.getElem?_eq_none (by omega)]
          rfl
      · rw [if_neg (by omega)]
        simp only [h2, if_false]
/-- An object more in words that are 0. -/
theorem alloc_mid (A : List (BitVec 64)) (m n t : Nat) (h : BitVec 64) (h1 : 1 ≤ n) (hn : n ≤ m) (ht : t = A.length) : allocW (A ++ List.replicate m 0#64) t n h = A ++ (h :: List.replicate (n - 1) 0#64) ++ List.replicate (m - n) 0#64 := by
  subst ht
  have hlen : ((A ++ List.replicate m 0#64).set A.length h).length = A.length + m := by rw [List.length_set, List.length_append, List.length_replicate]
  obtain ⟨k, rfl⟩ : ∃ k, m = k + 1 := ⟨m - 1, by omega⟩
  unfold allocW
  rw [List.replicate_succ, setMid]
  apply List.ext_getElem?
  intro i
  rw [zeroW_get _ _ _ _ (by rw [List.length_append, List.length_cons, List.length_replicate]; omega)]
  have e2 : A ++ h :: List.replicate (n - 1) 0#64 ++ List.replicate (k + 1 - n) 0#64 = A ++ h :: List.replicate k 0#64 := by
    rw [List.append_assoc, List.cons_append, List.replicate_append_replicate, show n - 1 + (k + 1 - n) = k from by omega]
  rw [e2]
  by_cases hi : A.length + 1 ≤ i ∧ i < A.length + 1 + (n - 1)
  · rw [if_pos hi, List.getElem?_append_right (by omega)]
    obtain ⟨j, hj⟩ : ∃ j, i - A.length = j + 1 := ⟨i - A.length - 1, by omega⟩
    rw [hj, List.getElem?_cons_succ, List.getElem?_replicate, if_pos (by omega)]
  · rw [if_neg hi]
def blankW (x : Nv) : List (BitVec 64) := headW x :: List.replicate (szG x - 1) 0#64
theorem blankW_len (x : Nv) : (blankW x).length = szG x := by
  unfold blankW szG
  rw [List.length_cons, List.length_replicate]
  omega
theorem blanks_len : ∀ (ns : List Nv) (a : Nat), a + (ns.flatMap blankW).length = endL ns a
  | [], _ => rfl
  | x :: ns, a => by
    rw [List.flatMap_cons, List.length_append, blankW_len, ← Nat.add_assoc, blanks_len ns (a + szG x)]
    rfl
theorem nodesW_len (pl : List Nat) : ∀ (ns : List Nv) (a : Nat), a + (ns.flatMap (nodeW pl)).length = endL ns a
  | [], _ => rfl
  | x :: ns, a => by
    rw [List.flatMap_cons, List.length_append, nodeW_len, ← Nat.add_assoc, nodesW_len pl ns (a + szG x)]
    rfl
/-- A node whose first k pointers are set. -/
def halfW (pl : List Nat) (x : Nv) (k : Nat) : List (BitVec 64) := headW x :: ((x.ps.take k).map (pointW pl) ++ List.replicate (x.ps.length - k) 0#64 ++ List.replicate ((x.bs.length + 7) / 8) 0#64)
theorem half_zero (pl : List Nat) (x : Nv) : halfW pl x 0 = blankW x := by
  unfold halfW blankW szG
  rw [List.take_zero, List.map_nil, List.nil_append, List.replicate_append_replicate]
  congr 2
  omega
theorem half_len (pl : List Nat) (x : Nv) (k : Nat) (hk : k ≤ x.ps.length) : (halfW pl x k).length = szG x := by
  unfold halfW szG
  simp
  omega
theorem half_step (pl : List Nat) (x : Nv) (k : Nat) (hk : k < x.ps.length) (A C : List (BitVec 64)) : (A ++ halfW pl x k ++ C).set (A.length + 1 + k) (pointW pl x.ps[k]) = A ++ halfW pl x (k + 1) ++ C := by
  obtain ⟨m, hm⟩ : ∃ m, x.ps.length - k = m + 1 := ⟨x.ps.length - k - 1, by omega⟩
  have hm2 : x.ps.length - (k + 1) = m := by omega
  unfold halfW
  rw [hm, hm2, List.replicate_succ]
  have e1 : A ++ (headW x :: ((x.ps.take k).map (pointW pl) ++ (0#64 :: List.replicate m 0#64) ++ List.replicate ((x.bs.length + 7) / 8) 0#64)) ++ C = (A ++ headW x :: (x.ps.take k).map (pointW pl)) ++ 0#64 :: (List.replicate m 0#64 ++ List.replicate ((x.bs.length + 7) / 8) 0#64 ++ C) := by simp
  have e2 : A.length + 1 + k = (A ++ headW x :: (x.ps.take k).map (pointW pl)).length := by
    simp only [List.length_append, List.length_cons, List.length_map, List.length_take]
    omega
  rw [e1, e2, setMid, List.take_succ_eq_append_getElem hk, List.map_append]
  simp
theorem half_data (pl : List Nat) (x : Nv) (a : Nat) (A C : List (BitVec 64)) (ha : a = 8 * (A.length + 1 + x.ps.length)) : putK (A ++ halfW pl x x.ps.length ++ C) a x.bs x.bs.length = A ++ nodeW pl x ++ C := by
  unfold halfW nodeW
  rw [Nat.sub_self, List.take_length]
  have e1 : A ++ (headW x :: (x.ps.map (pointW pl) ++ List.replicate 0 0#64 ++ List.replicate ((x.bs.length + 7) / 8) 0#64)) ++ C = (A ++ headW x :: x.ps.map (pointW pl)) ++ List.replicate ((x.bs.length + 7) / 8) 0#64 ++ C := by simp
  rw [e1, putK_mid _ _ _ _ _ rfl (by rw [ha]; simp; omega)]
  simp
/-- The Roots that are set, those that are not, the objects. -/
def rootsW (pl : List Nat) (F : List (BitVec 64)) (rs : List Rv) (j R : Nat) (C : List (BitVec 64)) : List (BitVec 64) := F ++ (rs.take j).flatMap (rootW pl) ++ List.replicate (5 * (R - j)) 0#64 ++ C
theorem root_step (pl : List Nat) (F C : List (BitVec 64)) (rs : List Rv) (j a : Nat) (hj : j < rs.length) (h32 : ∀ r ∈ rs, r.s.size ≤ 32) (hF : F.length = 2) (ha : a = 2 + 5 * j) :
    (putK (rootsW pl F rs j rs.length C) (8 * a) (nameW rs[j].s) (nameW rs[j].s).length).set (a + 4) (pointW pl rs[j].t) = rootsW pl F rs (j + 1) rs.length C := by
  obtain ⟨m, hm⟩ : ∃ m, rs.length - j = m + 1 := ⟨rs.length - j - 1, by omega⟩
  have hm2 : rs.length - (j + 1) = m := by omega
  have hl := nameW_len (h32 _ (List.getElem_mem hj))
  have hA : (F ++ (rs.take j).flatMap (rootW pl)).length = a := by
    rw [List.length_append, roots_len _ _ (fun r hr => h32 r (List.mem_of_mem_take hr)), List.length_take, hF, ha]
    omega
  unfold rootsW
  rw [hm, hm2, show 5 * (m + 1) = 4 + (1 + 5 * m) from by omega, ← List.replicate_append_replicate (n := 4), ← List.replicate_append_replicate (n := 1), ← List.append_assoc _ (List.replicate 4 0#64), List.append_assoc (_ ++ List.replicate 4 0#64)]
  rw [putK_mid _ _ _ _ _ (by rw [hl]) (by rw [hA])]
  have hW : (wordsW (nameW rs[j].s)).length = 4 := by rw [wordsW_len, hl]
  have e2 : a + 4 = (F ++ (rs.take j).flatMap (rootW pl) ++ wordsW (nameW rs[j].s)).length := by rw [List.length_append, hA, hW]
  rw [e2, show List.replicate 1 0#64 ++ List.replicate (5 * m) 0#64 ++ C = 0#64 :: (List.replicate (5 * m) 0#64 ++ C) from rfl, setMid, List.take_succ_eq_append_getElem hj, List.flatMap_append]
  unfold rootW
  simp
end Go.Proofs.Ytkkjnahjmomjgaa
/- image.putNodes. Conditions: a graph that Check lets, room for it. -/
namespace Go.Proofs.Ytkkjnahjmomjgaa
set_option linter.unusedVariables false
set_option linter.unusedSimpArgs false
open Go.RowKit Go.Maps
set_option maxHeartbeats 4000000
set_option maxRecDepth 100000
theorem im_memkept {S : Nat → Prop} {W W' : World} {B g : Nat} {v : Value} {ws : List (BitVec 64)} (h : Kept S W W') (m : MemAt W B g v ws) (hg : ¬ S g) (hv : ∀ k, v.ownBlock = some k → ¬ S k) : MemAt W' B g v ws := ⟨h.bk m.blk hg, m.ge, h.ow m.row hv, m.ne⟩
theorem im_spkept {S : Nat → Prop} {W W' : World} {B s g : Nat} {v : Value} {ws : List (BitVec 64)} {b t e : Nat} (h : Kept S W W') (p : SpAt W B s g v ws b t e) (hs : ¬ S s) (hg : ¬ S g) (hv : ∀ k, v.ownBlock = some k → ¬ S k) : SpAt W' B s g v ws b t e := ⟨im_memkept h p.mem hg hv, h.bk p.blk hs, p.sg, p.sv, p.hs, p.bt, p.te, p.el⟩
theorem im_twokept {w w' : World} {s : Nat} {row : Option Nat} (h : Two w w' s row) : Kept (fun k => k = s ∨ some k = row) w w' :=
  ⟨h.os, h.tape, h.output, h.size, fun k hk hn => h.block k hk (fun e => hn (.inl e)) (fun e => hn (.inr e))⟩
/-- The places of nodes; 0 has none's. -/
def plI (ns : List Nv) (b : Nat) : List Int := (-1) :: (placeL ns b).map (fun a : Nat => (a : Int))
theorem plI_snoc (x : Nv) (l : List Nv) (b : Nat) : plI (l ++ [x]) b = plI l b ++ [((endL l b : Nat) : Int)] := by
  unfold plI
  rw [placeL_snoc, List.map_append]
  rfl
theorem plI_len (l : List Nv) (b : Nat) : (plI l b).length = l.length + 1 := by
  unfold plI
  rw [List.length_cons, List.length_map, placeL_len]
theorem endL_len : ∀ (l : List Nv) (a : Nat), a + l.length ≤ endL l a
  | [], _ => Nat.le_refl _
  | x :: r, a => by
    have := endL_len r (a + szG x)
    have h2 : 1 ≤ szG x := by unfold szG; omega
    show a + (r.length + 1) ≤ endL r (a + szG x)
    omega
theorem placeL_at : ∀ (l : List Nv) (a k : Nat) (h : k < l.length), (placeL l a).getD k 0 = endL (l.take k) a
  | [], _, _, h => absurd h (Nat.not_lt_zero _)
  | x :: r, a, 0, h => rfl
  | x :: r, a, k + 1, h => by
    unfold placeL
    rw [List.getD_cons_succ, placeL_at r _ k (by rw [List.length_cons] at h; omega), List.take_succ_cons]
    rfl
theorem plI_at (l : List Nv) (b k : Nat) (h : k < l.length) : (plI l b)[k + 1]? = some ((endL (l.take k) b : Nat) : Int) := by
  unfold plI
  rw [List.getElem?_cons_succ, List.getElem?_map, ← placeL_at l b k h, List.getD_eq_getElem?_getD, List.getElem?_eq_getElem (by rw [placeL_len]; exact h)]
  rfl
section
variable {W W' : World} {B s g S : Nat} {v pv : Value} {ws ws' : List (BitVec 64)} {b t t' e : Nat} {L : List Int}
/-- A space, and a row of places beside it. -/
structure PuAt (W : World) (B s g : Nat) (v : Value) (ws : List (BitVec 64)) (b t e S : Nat) (pv : Value) (L : List Int) : Prop where
  sp : SpAt W B s g v ws b t e
  row : Ow iV 3 W S pv L
  ss : s < S
  gs : g < S
  vs : ∀ k, v.ownBlock = some k → k < S
  sz : S ≤ W.heap.size
theorem PuAt.below (p : PuAt W B s g v ws b t e S pv L) (h : Below W.heap.size W W') : PuAt W' B s g v ws b t e S pv L := ⟨p.sp.below h, p.row.below h, p.ss, p.gs, p.vs, Nat.le_trans p.sz h.size⟩
theorem PuAt.two (p : PuAt W B s g v ws b t e S pv L) (q : SpAt W' B s g v ws' b t' e) (h : Two W W' s v.ownBlock) : PuAt W' B s g v ws' b t' e S pv L :=
  ⟨q, (im_twokept h).ow p.row (fun k hk hn => by
    have h1 := (p.row.lt k hk).1
    rcases hn with hn | hn
    · have := p.ss; omega
    · have := p.vs k hn.symm; omega), p.ss, p.gs, p.vs, Nat.le_trans p.sz h.size⟩
theorem PuAt.app {pv' : Value} {L' : List Int} (p : PuAt W B s g v ws b t e S pv L) (q : Ow iV 3 W' S pv' L') (h : W.grownBy W' pv.ownBlock) : PuAt W' B s g v ws b t e S pv' L' := by
  refine ⟨im_spkept (Kept.grown h) p.sp (fun hn => ?_) (fun hn => ?_) (fun k hk hn => ?_), q, p.ss, p.gs, p.vs, Nat.le_trans p.sz h.size⟩
  · have := (p.row.lt s hn).1; have := p.ss; omega
  · have := (p.row.lt g hn).1; have := p.gs; omega
  · have := (p.row.lt k hn).1; have := p.vs k hk; omega
theorem PuAt.low (p : PuAt W B s g v ws b t e S pv L) : B ≤ S := by have := p.sp.hs; have := p.ss; omega
end
theorem ow_iV1 (w : World) (z : Int) : Ow iV 3 (w.alloc (.cells #[.int .i64 z] 3)) w.heap.size (.slice (some ⟨w.heap.size, 0, none⟩) 1 1) [z] := ⟨rfl, .inr ⟨w.heap.size, 1, #[.int .i64 z], rfl, Nat.le_refl _, heap_alloc_new w _, Nat.le_refl _, by simp [maxLen], rfl, rfl⟩⟩
/-- What putNodes has laid when k objects are made. -/
def madeW (ns : List Nv) (b need k : Nat) : List (BitVec 64) := (List.replicate b 0#64 ++ (ns.take k).flatMap blankW) ++ List.replicate (need - endL (ns.take k) b) 0#64
/-- .. when k objects are filled. -/
def doneW (pl : List Nat) (ns : List Nv) (b k : Nat) : List (BitVec 64) := (List.replicate b 0#64 ++ (ns.take k).flatMap (nodeW pl)) ++ (ns.drop k).flatMap blankW
theorem made_step (ns : List Nv) (b need k : Nat) (hk : k < ns.length) (hn : need = endL ns b) : allocW (madeW ns b need k) (endL (ns.take k) b) (szG ns[k]) (headW ns[k]) = madeW ns b need (k + 1) := by
  have htk : ns.take (k + 1) = ns.take k ++ [ns[k]] := List.take_succ_eq_append_getElem hk
  have he : endL (ns.take (k + 1)) b = endL (ns.take k) b + szG ns[k] := by rw [htk, endL_snoc]
  have hle := endL_take_le ns (k + 1) b
  have hlen : (List.replicate b 0#64 ++ (ns.take k).flatMap blankW).length = endL (ns.take k) b := by rw [List.length_append, List.length_replicate, blanks_len]
  have hs : 1 ≤ szG ns[k] := by unfold szG; omega
  unfold madeW
  rw [alloc_mid _ _ _ _ _ hs (by omega) hlen.symm, he, htk, List.flatMap_append]
  simp only [List.flatMap_cons, List.flatMap_nil, List.append_nil, blankW, List.append_assoc, Nat.sub_sub]
theorem made_all (ns : List Nv) (b need : Nat) (pl : List Nat) (hn : need = endL ns b) : madeW ns b need ns.length = doneW pl ns b 0 := by
  unfold madeW doneW
  rw [List.take_length, hn, Nat.sub_self, List.take_zero, List.drop_zero]
  simp
theorem made_len (ns : List Nv) (b need k : Nat) (hn : need = endL ns b) : (madeW ns b need k).length = need := by
  have hle := endL_take_le ns k b
  unfold madeW
  rw [List.length_append, List.length_append, List.length_replicate, List.length_replicate, blanks_len]
  omega
theorem done_all (pl : List Nat) (ns : List Nv) (b : Nat) : doneW pl ns b ns.length = List.replicate b 0#64 ++ ns.flatMap (nodeW pl) := by
  unfold doneW
  rw [List.take_length, List.drop_length]
  simp
theorem done_pre (pl : List Nat) (ns : List Nv) (b k : Nat) : (List.replicate b 0#64 ++ (ns.take k).flatMap (nodeW pl)).length = endL (ns.take k) b := by
  rw [List.length_append, List.length_replicate, nodesW_len]
theorem done_split (pl : List Nat) (ns : List Nv) (b k : Nat) (hk : k < ns.length) : doneW pl ns b k = (List.replicate b 0#64 ++ (ns.take k).flatMap (nodeW pl)) ++ halfW pl ns[k] 0 ++ (ns.drop (k + 1)).flatMap blankW := by
  unfold doneW
  rw [List.drop_eq_getElem_cons hk, List.flatMap_cons, half_zero]
  simp only [List.append_assoc]
theorem done_next (pl : List Nat) (ns : List Nv) (b k : Nat) (hk : k < ns.length) : (List.replicate b 0#64 ++ (ns.take k).flatMap (nodeW pl)) ++ nodeW pl ns[k] ++ (ns.drop (k + 1)).flatMap blankW = doneW pl ns b (k + 1) := by
  unfold doneW
  rw [List.take_succ_eq_append_getElem hk, List.flatMap_append]
  simp
theorem half_all_len (pl : List Nat) (ns : List Nv) (b need k j : Nat) (hk : k < ns.length) (hj : j ≤ ns[k].ps.length) (hn : need = endL ns b) : ((List.replicate b 0#64 ++ (ns.take k).flatMap (nodeW pl)) ++ halfW pl ns[k] j ++ (ns.drop (k + 1)).flatMap blankW).length = need := by
  have e1 := blanks_len ns b
  have e2 : ns.flatMap blankW = (ns.take k).flatMap blankW ++ (blankW ns[k] ++ (ns.drop (k + 1)).flatMap blankW) := by
    rw [← List.flatMap_cons, ← List.drop_eq_getElem_cons hk, ← List.flatMap_append, List.take_append_drop]
  have e3 := blanks_len (ns.take k) b
  rw [List.length_append, List.length_append, done_pre, half_len _ _ _ hj]
  rw [e2, List.length_append, List.length_append, blankW_len] at e1
  omega
theorem half_head (pl : List Nat) (ns : List Nv) (b k j : Nat) (hk : k < ns.length) : ((List.replicate b 0#64 ++ (ns.take k).flatMap (nodeW pl)) ++ halfW pl ns[k] j ++ (ns.drop (k + 1)).flatMap blankW).getD (endL (ns.take k) b) 0#64 = headW ns[k] := by
  have h := app_getD (List.replicate b 0#64 ++ (ns.take k).flatMap (nodeW pl)) (halfW pl ns[k] j ++ (ns.drop (k + 1)).flatMap blankW) 0#64 (i := 0) (done_pre pl ns b k).symm
  rw [← List.append_assoc] at h
  exact h
end Go.Proofs.Ytkkjnahjmomjgaa
/- image.readNode. Conditions: an object that is well. -/
namespace Go.Proofs.Ytkkjnahjmomjgaa
set_option linter.unusedVariables false
set_option linter.unusedSimpArgs false
open Go.RowKit Go.Maps
set_option maxHeartbeats 8000000
set_option maxRecDepth 100000
/-- A result that is a struct of two cells, and a number. -/
theorem res2 {fn : Func} {p u : Tmp} {ty : TypeId} {tmps : Array Value} {W : World} {g : Nat} {v y : Value} (h : fn.results = #[.cell p ty, .tmp u]) (hl : (loadVar ty ⟨g, 0, none⟩).run Try.prog W = .ok v W) (h2 : tmps.getD p undef = .pointer (some ⟨g, 0, none⟩)) (h3 : tmps.getD u undef = y) :
    (results fn tmps).run Try.prog W = .ok (.tuple #[v, y]) W := by
  rw [results_cell_tmp h, h2]
  simp [asAddr, Result.andThen, hl, h3]
theorem two_set {W : World} {g : Nat} {E : TypeId} {a b a' b' : Value} (h : Bk W g E #[a, b]) : Bk ((W.setCell ⟨g, 0, none⟩ a').setCell ⟨g, 1, none⟩ b') g E #[a', b'] := by
  have k := (h.set 0 a').set 1 b'
  simpa using k
theorem two_below {W w : World} {B g : Nat} {a' b' : Value} (h : Below B w W) (hg : B ≤ g) : Below B w ((W.setCell ⟨g, 0, none⟩ a').setCell ⟨g, 1, none⟩ b') :=
  (h.setCell (p := ⟨g, 0, none⟩) hg _).setCell (p := ⟨g, 1, none⟩) hg _
/-- What readNode answers. -/
def NodeP (w : World) (d : Nv) (r : Ending) (w' : World) : Prop :=
  ∃ x : Nv, r = .returned (.tuple #[x.v, .int .i64 0]) ∧ normN x = d ∧ Ow iV 3 w' w.heap.size x.vp x.ps ∧ Ow b8 5 w' w.heap.size x.vd x.bs ∧ (∀ k, x.vp.ownBlock = some k → x.vd.ownBlock ≠ some k) ∧ Below w.heap.size w w'
theorem ptr_well {ws : List (BitVec 64)} {l : List Nat} {b t a k : Nat} (hl : ∀ y ∈ l, b ≤ y ∧ y < t) (h : ptrN ws l a k = true) : pokB b t (ws.getD (a + 1 + k) 0#64) = true ∧ (ws.getD (a + 1 + k) 0#64).toNat ≤ t := by
  have h := of_decide_eq_true h
  unfold pokB
  rcases h with h | ⟨h1, h2⟩
  · exact ⟨decide_eq_true (.inl h), by omega⟩
  · have h3 := hl _ h2
    exact ⟨decide_eq_true (.inr ⟨by omega, by omega⟩), by omega⟩
theorem readNode_c (w : World) (B s g mb : Nat) (v : Value) (ws : List (BitVec 64)) (b t e : Nat) (sp : SpAt w B s g v ws b t e) (h8 : ws.length ≤ 8192) (l : List Nat) (hm : MapIs w (some mb) (numM l)) (hlb : ∀ y ∈ l, b ≤ y ∧ y < t) (a : Nat) (ha1 : b ≤ a) (ha2 : a < t) (hg : goodX (ws.getD a 0#64) (t - a) = true) (hw : wellN ws l a = true) :
    Calls Try.prog 99 #[.pointer (some ⟨s, 0, none⟩), .int .i64 (a : Int), .map (some mb)] w (NodeP w (dNode ws l a)) := by
  obtain ⟨x, hx⟩ : ∃ x, x = ws.getD a 0#64 := ⟨_, rfl⟩
  have hgx := hg
  rw [← hx] at hgx
  obtain ⟨hv, hP64, hB1024, hsx, hsz, hroom⟩ := head_of hgx
  have htl : t ≤ ws.length := Nat.le_trans sp.te sp.el
  have hal : a < ws.length := by omega
  have hHd := fun W (q : SpAt W B s g v ws b t e) => sphead_in W B s g v ws b t e q a ha1 ha2 (by omega) hal
  have hxe : ws[a] = x := by rw [hx, List.getD_eq_getElem?_getD, List.getElem?_eq_getElem hal]; rfl
  rw [hxe, hv] at hHd
  have HHd := Lib.hid hHd
  obtain ⟨P, hP⟩ : ∃ P, P = P0 x := ⟨_, rfl⟩
  obtain ⟨n, hn⟩ : ∃ P, P = B0 x := ⟨_, rfl⟩
  rw [← hP, ← hn] at HHd
  rw [← hP] at hP64
  rw [← hn] at hB1024
  unfold wellN at hw
  rw [Bool.and_eq_true, List.all_eq_true] at hw
  have hpt := hw.1
  obtain ⟨ps, hps⟩ : ∃ ps, ps = (List.range P).map (fun k => numV l (((ws.getD (a + 1 + k) 0#64).toNat : Int) - 1)) := ⟨_, rfl⟩
  have hpl : ps.length = P := by rw [hps]; simp
  obtain ⟨bs, hbs⟩ : ∃ bs, bs = bytesM ws (8 * (a + 1 + P) + 0) n := ⟨_, rfl⟩
  have hd : dNode ws l a = ⟨none, 0, none, 0, ps, bs⟩ := by unfold dNode; rw [← hx, ← hP, ← hn, ← hps, ← hbs]
  rw [hd]
  have HPt := Lib.hid (fun W (q : SpAt W B s g v ws b t e) (k : Nat) (hk : k < P) => show Calls Try.prog 109 #[.pointer (some ⟨s, 0, none⟩), .int .i64 a, .int .i64 k] W (RetP (.tuple #[.int .i64 (((ws.getD (a + 1 + k) 0#64).toNat : Int) - 1), .int .i64 0]) W) from by
    have h1 := Ptr_c W B s g v ws b t e q h8 a k ha1 ha2 hg (by rw [← hx, ← hP]; exact hk)
    have h2 := ptr_well (b := b) (t := t) hlb (hpt k (List.mem_range.2 (by rw [← hx, ← hP]; exact hk)))
    obtain ⟨e1, e2⟩ := pt_yes h2.1
    rw [e1, e2] at h1
    exact h1)
  have HRd := Lib.hid (fun W (q : SpAt W B s g v ws b t e) => show Calls Try.prog 111 #[.pointer (some ⟨s, 0, none⟩), .int .i64 a, .int .i64 0, .int .i64 n] W (MkEP b8 5 bs 0 W) from by
    have h1 := read_ok W B s g v ws b t e q (by omega) a 0 n ha1 ha2 hg (by rw [← hx, ← hn]; omega)
    rw [← hx, ← hP, ← hbs] at h1
    exact h1)
  have HV := Lib.hid (fun k (hk : k < P) => show ps[k]? = some (numV l (((ws.getD (a + 1 + k) 0#64).toNat : Int) - 1)) ∧ (ws.getD (a + 1 + k) 0#64).toNat ≤ 8192 from by
    refine ⟨?_, ?_⟩
    · rw [hps, List.getElem?_map, List.getElem?_range hk]; rfl
    · have h2 := ptr_well (b := b) (t := t) hlb (hpt k (List.mem_range.2 (by rw [← hx, ← hP]; exact hk)))
      omega)
  have HM := Lib.hid hm
  have HSp := Lib.hid sp
  have HPl := Lib.hid (And.intro hpl hP64)
  have aI : (a : Int) ≤ 8192 := by omega
  have PI : (P : Int) ≤ 64 := by omega
  have nI : (n : Int) ≤ 1024 := by omega
  clear hx hgx hg hv hsx hsz hroom hal hHd hxe hP hn hw hpt hps hpl hbs hd hm sp hlb htl ha1 ha2 h8 hP64 hB1024
  go_enter Try.func99, Try.ntmps99
  go_wp2_with fail
  obtain ⟨Rb, hRb⟩ : ∃ R, R = w.heap.size := ⟨_, rfl⟩
  obtain ⟨w1, hw1⟩ : ∃ W, W = w.alloc (.cells #[.slice none 0 0, .slice none 0 0] 54) := ⟨_, rfl⟩
  have hbk : Bk w1 Rb 54 #[.slice none 0 0, .slice none 0 0] := by rw [hw1, hRb]; exact Bk.new w _ _
  have b1 : Below w.heap.size w w1 := by rw [hw1]; exact Gw.alloc w _
  rw [← hw1, ← hRb]
  have H1 := Lib.hid (And.intro hbk b1)
  have HFr := Lib.hid (Nat.le_of_eq hRb.symm)
  clear hw1 hRb hbk b1
  refine Calls.mono (HHd.out w1 (HSp.out.below H1.out.2)) ?_
  rintro r w2 ⟨rfl, b2⟩
  have H2 := Lib.hid (And.intro (H1.out.1.below b2 H1.out.1.lt) (H1.out.2.trans (b2.mono H1.out.2.size)))
  clear b2 H1
  go_wp2_with fail
  obtain ⟨Hb, hHb⟩ : ∃ H, H = w2.heap.size := ⟨_, rfl⟩
  obtain ⟨w3, hw3⟩ : ∃ w3', w3' = w2.alloc (.cells #[.int .i64 (P : Int), .int .i64 (n : Int), .bool false, .int .i64 0] 112) := ⟨_, rfl⟩
  have hbk : Bk w3 Hb 112 #[.int .i64 (P : Int), .int .i64 (n : Int), .bool false, .int .i64 0] := by rw [hw3, hHb]; exact Bk.new w2 _ _
  have b23 : Below w2.heap.size w2 w3 := by rw [hw3]; exact Gw.alloc w2 _
  have z3 : w3.heap.size = Hb + 1 := by rw [hw3, hHb]; unfold World.alloc; simp
  have H3 := Lib.hid (And.intro (H2.out.1.below b23 H2.out.1.lt) (And.intro (H2.out.2.trans (b23.mono H2.out.2.size)) (And.intro hbk (And.intro (show Rb < Hb from by rw [hHb]; exact H2.out.1.lt) z3))))
  rw [← hw3, ← hHb]
  clear hw3 hHb hbk b23 z3 H2
  obtain ⟨Nb, hNc⟩ : ∃ N, N = Hb + 1 := ⟨_, rfl⟩
  have hNb : Nb = w3.heap.size := by rw [hNc, H3.out.2.2.2.2]
  obtain ⟨w4, hw4⟩ : ∃ W, W = w3.alloc (.cells #[.slice none 0 0, .slice none 0 0] 54) := ⟨_, rfl⟩
  have hbk : Bk w4 Nb 54 #[.slice none 0 0, .slice none 0 0] := by rw [hw4, hNb]; exact Bk.new w3 _ _
  have b34 : Below w3.heap.size w3 w4 := by rw [hw4]; exact Gw.alloc w3 _
  have z4 : w4.heap.size = Nb + 1 := by rw [hw4, hNb]; unfold World.alloc; simp
  have hHN : Hb < Nb := by rw [hNb, H3.out.2.2.2.2]; omega
  have hb4 : Below w.heap.size w w4 := H3.out.2.1.trans (b34.mono H3.out.2.1.size)
  have hNw : w.heap.size ≤ Nb := by rw [hNb]; exact H3.out.2.1.size
  have HF := Lib.hid (show Rb < Hb ∧ Hb < Nb ∧ w.heap.size ≤ Nb ∧ w4.heap.size = Nb + 1 from ⟨H3.out.2.2.2.1, hHN, hNw, z4⟩)
  have HS0 : Hid (∃ pv, Bk w4 Nb 54 #[pv, .slice none 0 0] ∧ Bk w4 Hb 112 #[.int .i64 (P : Int), .int .i64 (n : Int), .bool false, .int .i64 0] ∧ Bk w4 Rb 54 #[.slice none 0 0, .slice none 0 0] ∧ Ow iV 3 w4 (Nb + 1) pv (ps.take 0) ∧ Below w.heap.size w w4 ∧ Nb + 1 ≤ w4.heap.size) :=
    Lib.hid ⟨_, hbk, H3.out.2.2.1.below b34 H3.out.2.2.1.lt, H3.out.1.below b34 H3.out.1.lt, by rw [List.take_zero]; exact Ow.nil_ _ _ _ _, hb4, by rw [z4]; exact Nat.le_refl _⟩
  rw [← hw4, ← hNc]
  clear hw4 hNb hNc hbk b34 z4 hHN hb4 hNw H3
  go_loopw [26] (fun x W => ∃ k : Nat, x = .int .i64 k ∧ k ≤ P ∧ Hid (∃ pv, Bk W Nb 54 #[pv, .slice none 0 0] ∧ Bk W Hb 112 #[.int .i64 (P : Int), .int .i64 (n : Int), .bool false, .int .i64 0] ∧ Bk W Rb 54 #[.slice none 0 0, .slice none 0 0] ∧ Ow iV 3 W (Nb + 1) pv (ps.take k) ∧ Below w.heap.size w W ∧ Nb + 1 ≤ W.heap.size)) (fun x _ => P - (Go.RowKit.intOf x).toNat)
  case atStart => exact ⟨0, rfl, Nat.zero_le _, HS0⟩
  case round =>
    obtain ⟨k, rfl, hk, hS⟩ := hrel
    clear HS0
    have p0 : (0 : Int) ≤ (k : Int) := by omega
    obtain ⟨pv, e1, e2, e3, e4, e5, e6⟩ := hS.out
    by_cases hlt : k < P
    · have p1 : (k : Int) < (P : Int) := by omega
      obtain ⟨hv1, hv2⟩ := HV.out k hlt
      obtain ⟨y, hy⟩ : ∃ y, y = (ws.getD (a + 1 + k) 0#64).toNat := ⟨_, rfl⟩
      rw [← hy] at hv1 hv2
      have HPk := Lib.hid (HPt.out wr (HSp.out.below e5) k hlt)
      rw [← hy] at HPk
      have yI : (y : Int) ≤ 8192 := by omega
      obtain ⟨nv, hnv⟩ : ∃ nv, nv = numV l ((y : Int) - 1) := ⟨_, rfl⟩
      rw [← hnv] at hv1
      have HLk := Lib.hid (fun W (q : MapIs W (some mb) (numM l)) => show (Instr.lookup 97 (.map (some mb)) (.int .i64 ((y : Int) - 1)) false).run Try.prog W = .ok (.int .i64 nv) W from by
        have h1 := q.look (k := (y : Int) - 1) (by simp [Lit.wf, IntKind.min, IntKind.max, IntKind.signed, IntKind.bits]; omega)
        rw [hnv]
        exact h1)
      have htk : ps.take (k + 1) = ps.take k ++ [nv] := by
        obtain ⟨hk1, hk2⟩ := List.getElem?_eq_some_iff.1 hv1
        rw [List.take_succ_eq_append_getElem hk1, hk2]
      have hln : (ps.take k).length + [nv].length ≤ 4294967296 := by rw [List.length_take]; simp; have := HPl.out; omega
      have HX := Lib.hid (And.intro htk hln)
      have H0 := Lib.hid (And.intro e1 (And.intro e2 (And.intro e3 (And.intro e4 (And.intro e5 e6)))))
      obtain ⟨pA, pc, epv, _⟩ := e4.form
      obtain ⟨pn, hpn⟩ : ∃ pn, pn = (ps.take k).length := ⟨_, rfl⟩
      rw [← hpn] at epv
      subst epv
      clear e1 e2 e3 e4 e5 e6 hS hv1 hv2 hy hnv htk hln hpn hk
      go_wp2_with fail
      refine Calls.mono HPk.out ?_
      rintro r w6 ⟨rfl, b6⟩
      have H6 := Lib.hid (show Bk w6 Nb 54 #[.slice pA pn pc, .slice none 0 0] ∧ Bk w6 Hb 112 #[.int .i64 (P : Int), .int .i64 (n : Int), .bool false, .int .i64 0] ∧ Bk w6 Rb 54 #[.slice none 0 0, .slice none 0 0] ∧ Ow iV 3 w6 (Nb + 1) (.slice pA pn pc) (ps.take k) ∧ Below w.heap.size w w6 ∧ Nb + 1 ≤ w6.heap.size from
        ⟨H0.out.1.below b6 H0.out.1.lt, H0.out.2.1.below b6 H0.out.2.1.lt, H0.out.2.2.1.below b6 H0.out.2.2.1.lt, H0.out.2.2.2.1.below b6, H0.out.2.2.2.2.1.trans (b6.mono H0.out.2.2.2.2.1.size), Nat.le_trans H0.out.2.2.2.2.2 b6.size⟩)
      clear b6 H0 HPk
      obtain ⟨g0, g1⟩ := H6.out.1.two
      have hNl := H6.out.1.lt
      have hfz := H6.out.1.free 0
      have hmp := HM.out.kept (Kept.of_below H6.out.2.2.2.2.1 (fun _ => False)) (fun _ _ f => f)
      have hlk := HLk.out w6 hmp
      clear hmp
      go_wp2_with (at_builtin; refine wp_app oneI iV_one rfl (.tmp 41) (.tmp 45) rfl (Nb + 1) _ (ps.take k) rfl (H6.out.2.2.2.1.alloc _) (some ⟨w6.heap.size, 0, none⟩) 1 1 [nv] rfl rfl (w6.heap.size + 1) (rd1_new rfl) HX.out.2 (by decide) (Nat.le_trans H6.out.2.2.2.2.2 (Gw.alloc w6 _).size) ?_; intro v7 w7 ho7 hb7 hg7 hj7; rw [← HX.out.1] at ho7; obtain ⟨A7, c7, e7, _⟩ := ho7.form; obtain ⟨n7, hn7⟩ : ∃ n, n = (ps.take (k + 1)).length := ⟨_, rfl⟩; rw [← hn7] at e7; subst e7; clear hn7; have hk7 : Bk w7 Nb 54 #[.slice pA pn pc, .slice none 0 0] := (Kept.grown hg7).bk (H6.out.1.alloc _) (fun hh => by have := (H6.out.2.2.2.1.lt _ hh).1; omega); have H7 := Lib.hid (And.intro ho7 (And.intro hk7 (And.intro ((Kept.grown hg7).bk (H6.out.2.1.alloc _) (fun hh => by have := (H6.out.2.2.2.1.lt _ hh).1; have := HF.out; omega)) (And.intro ((Kept.grown hg7).bk (H6.out.2.2.1.alloc _) (fun hh => by have := (H6.out.2.2.2.1.lt _ hh).1; have := HF.out; omega)) (And.intro ((H6.out.2.2.2.2.1.alloc H6.out.2.2.2.2.1.size _).trans (hb7.mono (by have := HF.out; omega))) (Nat.le_trans H6.out.2.2.2.2.2 (Nat.le_trans (Gw.alloc w6 _).size hb7.size))))))); clear g0 g1 hNl hfz hlk; obtain ⟨g0, g1⟩ := hk7.two; have hNl := hk7.lt; have hfz := hk7.free 0; clear ho7 hb7 hg7 hj7 hk7)
      have HN : Hid (∃ pv, Bk (w7.setCell ⟨Nb, 0, none⟩ (.slice A7 n7 c7)) Nb 54 #[pv, .slice none 0 0] ∧ Bk (w7.setCell ⟨Nb, 0, none⟩ (.slice A7 n7 c7)) Hb 112 #[.int .i64 (P : Int), .int .i64 (n : Int), .bool false, .int .i64 0] ∧ Bk (w7.setCell ⟨Nb, 0, none⟩ (.slice A7 n7 c7)) Rb 54 #[.slice none 0 0, .slice none 0 0] ∧ Ow iV 3 (w7.setCell ⟨Nb, 0, none⟩ (.slice A7 n7 c7)) (Nb + 1) pv (ps.take (k + 1)) ∧ Below w.heap.size w (w7.setCell ⟨Nb, 0, none⟩ (.slice A7 n7 c7)) ∧ Nb + 1 ≤ (w7.setCell ⟨Nb, 0, none⟩ (.slice A7 n7 c7)).heap.size) := by
        obtain ⟨h1, h2, h3, h4, h5, h6⟩ := H7.out
        have hs : (w7.setCell ⟨Nb, 0, none⟩ (.slice A7 n7 c7)).heap.size = w7.heap.size := by simp [World.setCell]
        refine Lib.hid ⟨_, by have := h2.set 0 (.slice A7 n7 c7); simpa using this, (Kept.set w7 Nb 0 (.slice A7 n7 c7)).bk h3 (by have := HF.out; omega), (Kept.set w7 Nb 0 (.slice A7 n7 c7)).bk h4 (by have := HF.out; omega), (Kept.set w7 Nb 0 (.slice A7 n7 c7)).ow h1 (fun j hj hh => by have := (h1.lt j hj).1; omega), h5.setCell (p := ⟨Nb, 0, none⟩) (show w.heap.size ≤ Nb from HF.out.2.2.1) _, by rw [hs]; exact h6⟩
      clear g0 g1 hNl hfz H7 H6
      go_roundw
      case rel => first | exact ⟨k + 1, by go_num, by omega, HN⟩ | ((repeat apply Exists.intro); refine ⟨?_, rfl⟩; exact ⟨k + 1, by go_num, by omega, HN⟩)
      case measure => simp [Go.RowKit.intOf]; omega
    · have p1 : ¬ (k : Int) < (P : Int) := by omega
      have hkP : ps.take k = ps := List.take_of_length_le (by have := HPl.out; omega)
      rw [hkP] at e4
      have H0 := Lib.hid (And.intro e1 (And.intro e2 (And.intro e3 (And.intro e4 (And.intro e5 e6)))))
      have HR := Lib.hid (HRd.out wr (HSp.out.below e5))
      obtain ⟨pA, pc, epv, hpc⟩ := e4.form
      obtain ⟨pn, hpn⟩ : ∃ pn, pn = ps.length := ⟨_, rfl⟩
      rw [← hpn] at epv
      have HPn := Lib.hid hpn
      subst epv
      obtain ⟨g0, g1, g2, g3⟩ := e2.four
      have hHl := e2.lt
      clear e1 e2 e3 e4 e5 e6 hS hkP hpc hpn hk
      go_wp2_with fail
      refine Calls.mono HR.out ?_
      rintro r w6 ⟨dA, dc, rfl, hdc, ho6, b6⟩
      obtain ⟨dn, hdn⟩ : ∃ dn, dn = bs.length := ⟨_, rfl⟩
      rw [← hdn] at ho6 ⊢
      have H6 := Lib.hid (show Bk w6 Nb 54 #[.slice pA pn pc, .slice none 0 0] ∧ Bk w6 Rb 54 #[.slice none 0 0, .slice none 0 0] ∧ Ow iV 3 w6 (Nb + 1) (.slice pA pn pc) ps ∧ Below w.heap.size w w6 ∧ Nb + 1 ≤ w6.heap.size ∧ Ow b8 5 w6 wr.heap.size (.slice dA dn dc) bs ∧ (∀ j, (Value.slice pA pn pc).ownBlock = some j → j < wr.heap.size) ∧ Nb + 1 ≤ wr.heap.size ∧ dn = bs.length from
        ⟨H0.out.1.below b6 H0.out.1.lt, H0.out.2.2.1.below b6 H0.out.2.2.1.lt, H0.out.2.2.2.1.below b6, H0.out.2.2.2.2.1.trans (b6.mono H0.out.2.2.2.2.1.size), Nat.le_trans H0.out.2.2.2.2.2 b6.size, ho6, fun j hj => (H0.out.2.2.2.1.lt j hj).2, H0.out.2.2.2.2.2, hdn⟩)
      clear b6 ho6 hdc hdn H0 HR g0 g1 g2 g3 hHl
      obtain ⟨g0, g1⟩ := H6.out.1.two
      have hNl := H6.out.1.lt
      have hfz := H6.out.1.free 1
      obtain ⟨q0, q1⟩ := H6.out.2.1.two
      have hRl := H6.out.2.1.lt
      have hfr0 := H6.out.2.1.free 0
      have hfr1 := H6.out.2.1.free 1
      have hne : Rb ≠ Nb := by have := HF.out; omega
      go_wp2_with fail
      obtain ⟨W, hW⟩ : ∃ W, W = (((w6.setCell ⟨Nb, 1, none⟩ (.slice dA dn dc)).setCell ⟨Rb, 0, none⟩ (.slice pA pn pc)).setCell ⟨Rb, 1, none⟩ (.slice dA dn dc)) := ⟨_, rfl⟩
      have kR : Bk W Rb 54 #[.slice pA pn pc, .slice dA dn dc] := by rw [hW]; exact two_set ((Kept.set w6 Nb 1 _).bk H6.out.2.1 hne)
      have kW : Kept (fun j => j = Nb ∨ j = Rb) w6 W := by
        rw [hW]
        exact (((Kept.set w6 Nb 1 _).more fun j hj => .inl hj).trans ((Kept.set _ Rb 0 _).more fun j hj => .inr hj)).trans ((Kept.set _ Rb 1 _).more fun j hj => .inr hj)
      have hl := run_loadVar_row (P := Try.prog) W Rb 54 54 #[.slice pA pn pc, .slice dA dn dc] (0, 0) _ kR Try.underlying54 rfl (by kernel_rfl)
      rw [← hW]
      clear hW g0 g1 hNl hfz q0 q1 hRl hfr0 hfr1
      refine bodyPost_ret (res2 (p := 6) (u := 7) (by kernel_rfl) hl rfl rfl) rfl ?_
      obtain ⟨i1, i2, i3, i4⟩ := HF.out
      obtain ⟨h1, h2, h3, h4, h5, h6, h7, h8, h9⟩ := H6.out
      refine ⟨⟨pA, pc, dA, dc, ps, bs⟩, ?_, rfl, ?_, ?_, fun j hj hh => ?_, h4.trans (kW.below h4.size fun j hj => ?_)⟩
      · show _ = Ending.returned (.tuple #[.agg #[.slice pA ps.length pc, .slice dA bs.length dc], .int .i64 0])
        rw [← HPn.out, ← h9]
        rfl
      · show Ow iV 3 W w.heap.size (.slice pA ps.length pc) ps
        rw [← HPn.out]
        exact (kW.ow h3 (fun j hj hn => by have := (h3.lt j hj).1; omega)).mono (by omega)
      · show Ow b8 5 W w.heap.size (.slice dA bs.length dc) bs
        rw [← h9]
        exact (kW.ow h6 (fun j hj hn => by have := (h6.lt j hj).1; omega)).mono (by omega)
      · have e1 : (Value.slice pA pn pc).ownBlock = some j := by rw [HPn.out]; exact hj
        have e2 : (Value.slice dA dn dc).ownBlock = some j := by rw [h9]; exact hh
        have := h7 j e1
        have := (h6.lt j e2).1
        omega
      · have h10 : w.heap.size ≤ Rb := HFr.out
        omega
end Go.Proofs.Ytkkjnahjmomjgaa
