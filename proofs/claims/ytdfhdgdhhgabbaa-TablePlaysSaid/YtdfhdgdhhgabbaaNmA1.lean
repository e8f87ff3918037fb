/- loamlaw19.at, loamlaw19.good. Conditions: lengths. -/
import Derived.Test.YtdfhdgdhhgabbaaNmO
namespace Go.Proofs.Ytdfhdgdhhgabbaa
set_option linter.unusedVariables false
set_option linter.unusedSimpArgs false
open Go.RowKit Go.Maps Go.Sort
set_option maxHeartbeats 1000000
set_option maxRecDepth 100000
theorem sR_len (row : Rw) : (row.map sR).length = row.length := List.length_map ..
theorem TR.atR {w : World} {base : Nat} {A : Option Addr} {n c : Nat} {row : Rw} (h : TR w base (.slice A n c) (row.map sR)) (j : Nat) (hj : j < row.length) : ∃ q, A = some ⟨q, 0, none⟩ ∧ base ≤ q ∧ q < w.heap.size ∧ w.cell? ⟨q, j * 2, none⟩ = some (.string (strB (row[j]).1)) ∧ w.cell? ⟨q, j * 2 + 1, none⟩ = some (.int .i64 (row[j]).2) := by
  have h1 := h.at_ j (by rw [sR_len]; exact hj)
  simpa [sR] using h1
theorem at_c {w : World} {base : Nat} {A : Option Addr} {c N : Nat} (row : Rw) (hN : N = row.length) (h : TR w base (.slice A N c) (row.map sR)) (hl : row.length ≤ 1000) (s : Nm) :
    Calls Try.prog 12 #[.slice A N c, .string (strB s)] w fun e w' => w' = w ∧ ((∃ a, ∃ h : a < row.length, (row[a]).1 = s ∧ e = .returned (.int .i64 (a : Int))) ∨ (s ∉ row.map Prod.fst ∧ e = .returned (.int .i64 (-1)))) := by
  have HT := Lib.hid h
  have HN := Lib.hid hN
  have q0 : (N : Int) ≤ 1000 := by omega
  have HL := Lib.hid hl
  clear h hN hl
  go_enter Try.func12, Try.ntmps12
  go_wp2_with fail
  go_loopw [5] (fun i W => ∃ k : Nat, i = .int .i64 k ∧ k ≤ N ∧ W = w ∧ Hid (∀ j (h : j < row.length), j < k → (row[j]).1 ≠ s)) (fun i _ => N - (intOf i).toNat)
  case atStart => exact ⟨0, rfl, by omega, rfl, Lib.hid (fun j h hj => absurd hj (by omega))⟩
  case round =>
    obtain ⟨k, rfl, hk, rfl, hno⟩ := hrel
    by_cases hlt : k < N
    · have p1 : (0 : Int) ≤ (k : Int) := by omega
      have p2 : (k : Int) < (N : Int) := by omega
      have hj : k < row.length := by rw [← HN.out]; exact hlt
      obtain ⟨q, rfl, _, hq, c0, c1⟩ := HT.out.atR k hj
      obtain ⟨x, hx⟩ : ∃ x, x = (row[k]).1 := ⟨_, rfl⟩
      rw [← hx] at c0
      have HX := Lib.hid hx
      clear hx c1
      by_cases e : x = s
      · have qs : ((strB x).toList == (strB s).toList) = true := by rw [str_eq]; simpa using e
        have HE := Lib.hid e
        clear e
        go_wp2_with fail
        go_ret
        exact ⟨rfl, .inl ⟨k, hj, HX.out.symm.trans HE.out, rfl⟩⟩
      · have qs : ((strB x).toList == (strB s).toList) = false := by rw [str_eq]; simpa using e
        have HE := Lib.hid e
        clear e
        go_wp2_with fail
        go_roundw
        case rel =>
          refine ⟨k + 1, by go_num, by omega, (by first | rfl | trivial), Lib.hid (fun j h hj => ?_)⟩
          by_cases ej : j = k
          · subst ej; rw [← HX.out]; exact HE.out
          · exact hno.out j h (by omega)
        case measure => (first | (simp [intOf]; done) | (simp [intOf]; omega))
    · have hkk : k = N := by omega
      go_wp2_with fail
      go_ret
      refine ⟨rfl, .inr ⟨fun hm => ?_, rfl⟩⟩
      obtain ⟨p, hp, e⟩ := List.mem_map.1 hm
      obtain ⟨j, hj, rfl⟩ := List.getElem_of_mem hp
      exact hno.out j hj (by rw [hkk, HN.out]; exact hj) e
theorem cut_lt : ∀ (k : Nm) (i : Nat) (h : i < (cutN k).length), k.getD i 0#8 ≠ 0#8
  | [], i, h => absurd h (by unfold cutN; simp)
  | x :: k, i, h => by
    unfold cutN at h
    rw [List.takeWhile_cons] at h
    split at h
    · rename_i hx
      cases i with
      | zero => simpa using hx
      | succ i => exact cut_lt k i (by unfold cutN; simpa using h)
    · exact absurd h (by simp)
theorem cut_end : ∀ (k : Nm), (cutN k).length < k.length → k.getD (cutN k).length 0#8 = 0#8
  | [], h => rfl
  | x :: k, h => by
    by_cases hx : x = 0#8
    · subst hx
      rfl
    · have e : cutN (x :: k) = x :: cutN k := by unfold cutN; rw [List.takeWhile_cons, if_pos (by simpa using hx)]
      rw [e] at h ⊢
      exact cut_end k (by simpa using h)
theorem pad_of {k : Nm} (hk : nW k) (h : ∀ i, (cutN k).length ≤ i → i < 32 → k.getD i 0#8 = 0#8) : k = padNm (cutN k) := by
  apply List.ext_getElem?
  intro i
  have hl : k.length = 32 := hk
  have hc := cut_len k
  unfold padNm
  by_cases h1 : i < (cutN k).length
  · rw [List.getElem?_append_left h1]
    have h5 : (k.take (cutN k).length)[i]? = (cutN k)[i]? := by rw [cut_take]
    rw [List.getElem?_take_of_lt h1] at h5
    exact h5
  · rw [List.getElem?_append_right (by omega)]
    by_cases h2 : i < 32
    · have h3 := h i (by omega) h2
      rw [List.getD_eq_getElem?_getD, List.getElem?_eq_getElem (by omega)] at h3
      rw [List.getElem?_eq_getElem (by omega), List.getElem?_replicate, if_pos (by omega)]
      exact congrArg some h3
    · rw [List.getElem?_eq_none (by omega), List.getElem?_eq_none (by simp; omega)]
theorem pad_get {s : Nm} (i : Nat) (h : s.length ≤ i) : (padNm s).getD i 0#8 = 0#8 := by
  unfold padNm
  rw [List.getD_eq_getElem?_getD, List.getElem?_append_right h, List.getElem?_replicate]
  split <;> rfl
theorem good_c (k : Nm) (hk : nW k) (w : World) : Calls Try.prog 11 #[nV k] w fun e w' => Below w.heap.size w w' ∧ ((∃ s, goodN s ∧ k = padNm s ∧ e = .returned (.tuple #[.string (strB s), .bool true])) ∨ ((¬ ∃ s, goodN s ∧ k = padNm s) ∧ ∃ st, e = .returned (.tuple #[.string st, .bool false]))) := by
  unfold nV
  obtain ⟨arr, harr⟩ : ∃ arr, arr = nC k := ⟨_, rfl⟩
  obtain ⟨n, hn⟩ : ∃ n, n = (cutN k).length := ⟨_, rfl⟩
  have hl : k.length = 32 := hk
  have hn32 : n ≤ 32 := by have := cut_len k; omega
  have HN := Lib.hid (And.intro hn hk)
  have HA := Lib.hid (show arr.size = 32 from by rw [harr]; exact nC_size hk)
  have HAO := Lib.hid (show arr.all (·.oneCell') = true from by rw [harr]; exact nC_one k)
  have HB := Lib.hid (show ∀ W, Below (w.alloc (.cells arr 24)).heap.size (w.alloc (.cells arr 24)) W → ∀ i, i < 32 → W.cell? ⟨w.heap.size, i, none⟩ = some (.int .u8 (U8 (k.getD i 0#8))) from fun W hW i hi => by
    have hb := (Bk.new w 24 arr).below hW (Bk.new w 24 arr).lt
    rw [hb.cell, harr, nC, List.getElem?_toArray, List.getElem?_map, List.getElem?_eq_getElem (by omega), List.getD_eq_getElem?_getD, List.getElem?_eq_getElem (by omega)]
    rfl)
  have HC := Lib.hid (show (convert 52 9 (.slice (some ⟨w.heap.size, 0, none⟩) n 32)).run Try.prog (w.alloc (.cells arr 24)) = .ok (.string (strB (cutN k))) (w.alloc (.cells arr 24)) from by
    have hb := Bk.new w 24 arr
    rw [harr] at hb ⊢
    have hr := (nrd hb hb.lt).take (cutN k).length
    rw [cut_take] at hr
    rw [hn]
    exact str_conv (cutN k) _ 32 _ _ hr)
  rw [← harr]
  have HGA := Lib.hid (Gw.alloc w (.cells arr 24))
  clear harr hk hl hn
  go_enter Try.func11, Try.ntmps11
  go_wp2_with fail
  obtain ⟨w0, hw0⟩ : ∃ w0, w0 = w.alloc (.cells arr 24) := ⟨_, rfl⟩
  obtain ⟨H, hH⟩ : ∃ H, H = w.heap.size := ⟨_, rfl⟩
  rw [← hw0, ← hH] at HC HB
  rw [← hw0] at HGA
  rw [← hw0, ← hH]
  clear hw0 hH
  have q32 : (n : Int) ≤ 32 := by omega
  go_loopw [4] (fun i W => ∃ j : Nat, i = .int .i64 j ∧ j ≤ n ∧ W = w0) (fun i _ => 33 - (intOf i).toNat)
  case atStart => exact ⟨0, rfl, by omega, rfl⟩
  case round =>
    obtain ⟨j, rfl, hj, rfl⟩ := hrel
    have p1 : (0 : Int) ≤ (j : Int) := by omega
    by_cases hlt : j < n
    · have p2 : (j : Int) < 32 := by omega
      have c0 := HB.out _ (Below.refl _ _) j (by omega)
      obtain ⟨y, hy⟩ : ∃ y, y = k.getD j 0#8 := ⟨_, rfl⟩
      have hne : y ≠ 0#8 := by rw [hy]; exact cut_lt k j (by rw [← HN.out.1]; exact hlt)
      rw [← hy] at c0
      have qy : (U8 y != 0) = true := by
        have : U8 y ≠ 0 := fun e => hne (BitVec.eq_of_toNat_eq (by unfold U8 at e; show y.toNat = 0; omega))
        simpa using this
      clear hy hne
      go_wp2_with fail
      go_roundw
      case rel => exact ⟨j + 1, by go_num, by omega, (by first | rfl | trivial)⟩
      case measure => (first | (simp [intOf]; done) | (simp [intOf]; omega))
    · have hjn : j = n := by omega
      subst hjn
      have hend : Hid (j < 32 → k.getD j 0#8 = 0#8) := Lib.hid (fun h => by
        have h1 := cut_end k (by rw [← HN.out.1, show k.length = 32 from HN.out.2]; exact h)
        rwa [← HN.out.1] at h1)
      rcases (show j = 32 ∨ j < 32 by omega) with h32 | h32
      · subst h32
        go_wp2_with fail
        go_loopw [5] (fun i W => i = .int .i64 32 ∧ W = wr) (fun i _ => 0)
        case atStart => exact ⟨rfl, rfl⟩
        case round =>
          obtain ⟨rfl, rfl⟩ := hrel
          have kc := HC.out
          go_wp2_with fail
          go_ret2
          have hpad : k = padNm (cutN k) := pad_of HN.out.2 (fun i h1 h2 => absurd h2 (by have := HN.out.1; omega))
          have hgd : goodN (cutN k) := ⟨by have := HN.out.1; omega, by have := HN.out.1; omega, cut_mem k⟩
          exact ⟨HGA.out, .inl ⟨cutN k, hgd, hpad, rfl⟩⟩
      · have p2 : (j : Int) < 32 := by omega
        have c0 := HB.out _ (Below.refl _ _) j h32
        rw [hend.out h32] at c0
        have qy : (U8 0#8 != 0) = false := by decide
        go_wp2_with fail
        clear c0 qy
        go_loopw [5] (fun i W => ∃ x : Nat, i = .int .i64 x ∧ j ≤ x ∧ x ≤ 32 ∧ W = wr ∧ Hid (∀ i, j ≤ i → i < x → k.getD i 0#8 = 0#8)) (fun i _ => 33 - (intOf i).toNat)
        case atStart => exact ⟨j, rfl, Nat.le_refl _, by omega, rfl, Lib.hid (fun i h1 h2 => absurd h2 (by omega))⟩
        case round =>
          obtain ⟨x, rfl, hx1, hx2, rfl, hz⟩ := hrel
          have p3 : (0 : Int) ≤ (x : Int) := by omega
          by_cases hxl : x < 32
          · have p4 : (x : Int) < 32 := by omega
            have c0 := HB.out _ (Below.refl _ _) x hxl
            obtain ⟨y, hy⟩ : ∃ y, y = k.getD x 0#8 := ⟨_, rfl⟩
            rw [← hy] at c0
            have HY := Lib.hid hy
            clear hy
            by_cases hy0 : y = 0#8
            · have qy : (U8 y != 0) = false := by rw [hy0]; decide
              have HY0 := Lib.hid hy0
              clear hy0
              go_wp2_with fail
              go_roundw
              case rel =>
                refine ⟨x + 1, by go_num, by omega, by omega, (by first | rfl | trivial), Lib.hid (fun i h1 h2 => ?_)⟩
                by_cases e : i = x
                · rw [e, ← HY.out]; exact HY0.out
                · exact hz.out i h1 (by omega)
              case measure => (first | (simp [intOf]; done) | (simp [intOf]; omega))
            · have qy : (U8 y != 0) = true := by
                have : U8 y ≠ 0 := fun e => hy0 (BitVec.eq_of_toNat_eq (by unfold U8 at e; show y.toNat = 0; omega))
                simpa using this
              have HY0 := Lib.hid hy0
              clear hy0
              go_wp2_with fail
              go_ret2
              refine ⟨HGA.out, .inr ⟨fun ⟨s, hs, e⟩ => ?_, _, rfl⟩⟩
              have h1 := HN.out.1
              rw [e, good_cut hs] at h1
              exact HY0.out (by rw [HY.out, e]; exact pad_get x (by omega))
          · have hx : x = 32 := by omega
            have kc := HC.out
            have HZ := Lib.hid (show k = padNm (cutN k) from pad_of HN.out.2 (fun i h1 h2 => hz.out i (by have := HN.out.1; omega) (by omega)))
            rcases (show j = 0 ∨ 0 < j by omega) with h0 | h0
            · subst h0
              go_wp2_with fail
              go_ret2
              refine ⟨HGA.out, .inr ⟨fun ⟨s, hs, e⟩ => ?_, _, rfl⟩⟩
              have h1 := HN.out.1
              rw [e, good_cut hs] at h1
              have := hs.1
              omega
            · have p5 : (0 : Int) < (j : Int) := by omega
              go_wp2_with fail
              go_ret2
              have hgd : goodN (cutN k) := ⟨by have := HN.out.1; omega, by have := HN.out.1; omega, cut_mem k⟩
              exact ⟨HGA.out, .inl ⟨cutN k, hgd, HZ.out, rfl⟩⟩
end Go.Proofs.Ytdfhdgdhhgabbaa
