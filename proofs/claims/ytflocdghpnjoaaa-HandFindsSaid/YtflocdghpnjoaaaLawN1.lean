/- The law HandFinds of layer 20 returns true for every argument. No conditions. -/
import Derived.Test.YtflocdghpnjoaaaHdH
import Derived.Test.YtflocdghpnjoaaaOpenZ
namespace Go.Proofs.Ytflocdghpnjoaaa
set_option linter.unusedVariables false
set_option linter.unusedSimpArgs false
open Go.RowKit Go.Maps
def fullL (n : Nat) : List (Int × Int) := (List.range n).map fun i => (((i + 1 : Nat) : Int), 7)
theorem fullL_succ (n : Nat) : fullL (n + 1) = fullL n ++ [(((n + 1 : Nat) : Int), 7)] := by unfold fullL; rw [List.range_succ, List.map_append]; rfl
theorem fullL_len (n : Nat) : (fullL n).length = n := by simp [fullL]
theorem fullL_lt {n : Nat} {p : Int × Int} (h : p ∈ fullL n) : p.1 < ((n + 1 : Nat) : Int) := by
  obtain ⟨i, hi, rfl⟩ := List.mem_map.1 h
  have := List.mem_range.1 hi
  show ((i + 1 : Nat) : Int) < _; omega
/-- The handles from place i on that are not closed. -/
def leftL (cs : List Bool) (n : Nat) : Nat → List (Int × Int)
  | 0 => []
  | m + 1 => if cs.getD (n - (m + 1)) false then leftL cs n m else (((n - (m + 1) + 1 : Nat) : Int), 7) :: leftL cs n m
def wantL (n : Nat) : List (Int × Int) → Int
  | [] => (n : Int) + 1
  | p :: _ => p.1
theorem leftL_mem {cs : List Bool} {n m : Nat} {p : Int × Int} (hm : m ≤ n) (h : p ∈ leftL cs n m) : ((n - m + 1 : Nat) : Int) ≤ p.1 ∧ p.2 = 7 := by
  induction m with
  | zero => cases h
  | succ m ih =>
    unfold leftL at h
    split at h
    · have := ih (by omega) h; exact ⟨by omega, this.2⟩
    · rcases List.mem_cons.1 h with rfl | h
      · exact ⟨by simp, rfl⟩
      · have := ih (by omega) h; exact ⟨by omega, this.2⟩
theorem leftL_len (cs : List Bool) (n m : Nat) : (leftL cs n m).length ≤ m := by
  induction m with
  | zero => simp [leftL]
  | succ m ih =>
    unfold leftL; split
    · omega
    · rw [List.length_cons]; omega
theorem leftL_step (cs : List Bool) (n s : Nat) (hs : s < n) : leftL cs n (n - s) = if cs.getD s false then leftL cs n (n - (s + 1)) else (((s + 1 : Nat) : Int), 7) :: leftL cs n (n - (s + 1)) := by
  have e : n - s = (n - (s + 1)) + 1 := by omega
  rw [e, leftL, show n - (n - (s + 1) + 1) = s by omega]
theorem mid_full (cs : List Bool) (n s : Nat) : fullL (s + 1) ++ leftL cs n (n - (s + 1)) = fullL s ++ (((s : Int) + 1), 7) :: leftL cs n (n - (s + 1)) := by
  rw [fullL_succ, List.append_assoc]; rfl
theorem wantL_bd (cs : List Bool) (n m : Nat) (hm : m ≤ n) : 1 ≤ wantL n (leftL cs n m) ∧ wantL n (leftL cs n m) ≤ n + 1 := by
  induction m with
  | zero => simp [leftL, wantL]; omega
  | succ m ih =>
    unfold leftL; split
    · exact ih (by omega)
    · simp only [wantL]; omega
set_option maxHeartbeats 400000
set_option maxRecDepth 100000
theorem finds_out (w : World) (A : Option Addr) (n c : Nat) (h : n = 0 ∨ 100 < n) (hn : n ≤ maxLen) : Calls Try.prog 6 #[.slice A n c] w (TruP (.bool true) w) := by
  rcases h with h | h
  · subst h
    go_enter Try.func6, Try.ntmps6
    go_wp2_with fail
    refine Calls.mono (known20_c w) ?_
    rintro e w1 ⟨rfl, b1⟩
    have HB := Lib.hid b1
    clear b1
    go_wp2_with fail
    go_ret
    exact ⟨rfl, HB.out⟩
  · have t1 : ((n : Int) == 0) = false := by simp; omega
    have t2 : decide ((100 : Int) < (n : Int)) = true := by simp; omega
    have t3 : ¬ n = 0 := by omega
    clear h hn
    go_enter Try.func6, Try.ntmps6
    go_wp2_with fail
    refine Calls.mono (known20_c w) ?_
    rintro e w1 ⟨rfl, b1⟩
    have HB := Lib.hid b1
    clear b1
    go_wp2_with fail
    go_ret
    exact ⟨rfl, HB.out⟩
theorem finds_in (w : World) (A : Option Addr) (cs : List Bool) (c : Nat) (h1 : 0 < cs.length) (h2 : cs.length ≤ 100) (hc : cs.length ≤ c) (hr : Rd boV w w.heap.size A cs) : Calls Try.prog 6 #[.slice A cs.length c] w (TruP (.bool true) w) := by
  have HR := Lib.hid hr
  obtain ⟨n, hn⟩ : ∃ n, n = cs.length := ⟨_, rfl⟩
  rw [← hn] at h1 h2 ⊢
  have HN := Lib.hid hn
  have t1 : ((n : Int) == 0) = false := by simp; omega
  have t2 : decide ((100 : Int) < (n : Int)) = false := by simp; omega
  have t3 : ¬ n = 0 := by omega
  have q1 : (n : Int) ≤ 100 := by omega
  have q2 : (1 : Int) ≤ (n : Int) := by omega
  clear hr hn hc
  go_enter Try.func6, Try.ntmps6
  go_wp2_with fail
  refine Calls.mono (known20_c w) ?_
  rintro e w1 ⟨rfl, b1⟩
  have HB1 := Lib.hid b1
  clear b1
  go_wp2_with fail
  refine Calls.mono (hnew_b w1) ?_
  rintro e w2 ⟨g, rfl, h2', b2⟩
  have HB2 := Lib.hid b2
  have HT2 := Lib.hid h2'
  clear b2 h2'
  go_wp2_with fail
  go_loopw [4] (fun i wr => ∃ k : Nat, k ≤ n ∧ i = .int .i64 k ∧ TabB w1.heap.size wr g (fullL k) k ∧ Below w1.heap.size w1 wr) (fun i _ => n - (intOf i).toNat)
  case atStart => exact ⟨0, by omega, rfl, HT2.out, HB2.out⟩
  case round =>
    obtain ⟨k, hk, rfl, ht, hB⟩ := hrel
    by_cases hlt : k < n
    · have p1 : (0 : Int) ≤ (k : Int) := by omega
      have p2 : (k : Int) < (n : Int) := by omega
      have HO := Lib.hid (hopen_b ht hB.size 7 (by decide) (by decide) (by rw [fullL_len]; omega) (by omega))
      have HB := Lib.hid hB
      clear ht hB
      go_wp2_with fail
      refine Calls.mono HO.out ?_
      rintro e w3 ⟨rfl, h3, b3⟩
      have H3 := Lib.hid (show TabB w1.heap.size w3 g (fullL (k + 1)) (k + 1) from by rw [fullL_succ]; exact h3)
      have HB3 := Lib.hid (HB.out.trans b3)
      clear h3 b3 HO
      go_wp2_with fail
      go_roundw
      case rel => exact ⟨k + 1, by omega, by go_num, H3.out, HB3.out⟩
      case measure => (first | (simp [intOf]; done) | (simp [intOf]; omega))
    · obtain rfl : k = n := by omega
      have HT := Lib.hid ht
      have HB := Lib.hid hB
      obtain ⟨w5, hw5⟩ : ∃ x, x = wr := ⟨_, rfl⟩
      rw [← hw5] at HT HB ⊢
      clear ht hB hlt hw5
      go_wp2_with fail
      go_loopw [5, 6] (fun q i wr => ∃ (r : Nat) (z : Int), r ≤ k ∧ i = .int .i64 z ∧ Hid (z = (r : Int) - 1) ∧ q = .int .i64 (wantL k (leftL cs k (k - r))) ∧ TabB w1.heap.size wr g (fullL r ++ leftL cs k (k - r)) k ∧ Below w1.heap.size w5 wr) (fun _ i _ => (intOf i + 1).toNat)
      case atStart => exact ⟨k, (k : Int) - 1, Nat.le_refl _, rfl, Lib.hid rfl, by rw [Nat.sub_self]; rfl, by rw [Nat.sub_self]; simpa [leftL] using HT.out, Below.refl _ _⟩
      case round =>
        obtain ⟨r, z, hrk, rfl, hz, rfl, ht, hB⟩ := hrel
        cases r with
        | zero =>
          obtain rfl : z = -1 := by have := hz.out; omega
          rw [Nat.sub_zero] at ht ⊢
          have hb := wantL_bd cs k k (Nat.le_refl _)
          have ht : TabB w1.heap.size wr g (leftL cs k k) k := ht
          have hmem := fun p (h : p ∈ leftL cs k k) => leftL_mem (Nat.le_refl _) h
          have hLl := leftL_len cs k k
          have HBw := Lib.hid (HB.out.trans hB)
          obtain ⟨L, hL⟩ : ∃ L, L = leftL cs k k := ⟨_, rfl⟩
          rw [← hL] at hb ht hmem hLl ⊢
          have HX := Lib.hid (show Calls Try.prog 10 #[.pointer (some ⟨g, 0, none⟩), .int .i64 7] wr fun e w' => e = .returned (.tuple #[.int .i64 (wantL k L), .int .i64 0]) ∧ Below w1.heap.size wr w' from by
            cases L with
            | nil =>
              refine (hfornew_b ht HBw.out.size 7 (by decide) (by decide) (by simp) (by omega) (fun j hj => absurd hj (by simp))).mono ?_
              rintro e w' ⟨rfl, _, h3⟩
              exact ⟨rfl, h3⟩
            | cons p L =>
              refine (hfor_b ht 7 0 (by simp) (hmem p (by simp)).2 (fun j hj => absurd hj (by omega))).mono ?_
              rintro e w' ⟨rfl, _, h3⟩
              exact ⟨rfl, h3.mono HBw.out.size⟩)
          obtain ⟨x, hx⟩ : ∃ x, x = wantL k L := ⟨_, rfl⟩
          rw [← hx] at HX hb ⊢
          obtain ⟨b1, b2⟩ := hb
          clear hL ht hmem hLl hx hB hrk
          go_wp2_with fail
          refine Calls.mono HX.out ?_
          rintro e w6 ⟨rfl, b6⟩
          have HB6 := Lib.hid (HB1.out.trans ((HBw.out.trans b6).mono HB1.out.size))
          clear b6
          go_wp2_with fail
          go_ret
          exact ⟨rfl, HB6.out⟩
        | succ s =>
          obtain rfl : z = (s : Int) := by have := hz.out; omega
          have hsk : s < k := by omega
          have p1 : (0 : Int) ≤ (s : Int) := by omega
          have p2 : (s : Int) < (k : Int) := by omega
          have hsl : s < cs.length := by rw [← HN.out]; exact hsk
          obtain ⟨ad, rfl, hadb, hcl⟩ := (HR.out.below (HB1.out.trans ((HB.out.trans hB).mono HB1.out.size))) s hsl
          have hgd : cs.getD s false = cs[s] := by rw [List.getD_eq_getElem?_getD, List.getElem?_eq_getElem hsl]; rfl
          have hst := leftL_step cs k s hsk
          rw [hgd] at hst
          unfold boV at hcl
          have hb := wantL_bd cs k (k - (s + 1)) (by omega)
          obtain ⟨d, hd⟩ : ∃ d, d = cs[s] := ⟨_, rfl⟩
          rw [← hd] at hst hcl
          rw [mid_full] at ht
          have HT3 := Lib.hid ht
          have HBw := Lib.hid (HB.out.trans hB)
          have HB3 := Lib.hid hB
          obtain ⟨x, hx⟩ : ∃ x, x = wantL k (leftL cs k (k - (s + 1))) := ⟨_, rfl⟩
          rw [← hx] at hb ⊢
          have HXX := Lib.hid hx
          obtain ⟨b1, b2⟩ := hb
          clear hd hgd hsl hadb ht hB hx
          cases d with
          | false =>
            rw [if_neg (by decide)] at hst
            have HST := Lib.hid hst
            clear hst
            go_wp2_with fail
            go_roundw
            case rel => exact ⟨s, (s : Int) - 1, by omega, rfl, Lib.hid rfl, by rw [HST.out]; rfl, by rw [HST.out]; exact HT3.out, HB3.out⟩
            case measure => (first | (simp [intOf]; done) | (simp [intOf]; omega))
          | true =>
            rw [if_pos rfl] at hst
            have HST := Lib.hid hst
            have HCl := Lib.hid (hclose_b HT3.out HBw.out.size ((s : Int) + 1) (wfI (by omega) (by omega)))
            have hrise : Rise (fullL s ++ ((s : Int) + 1, 7) :: leftL cs k (k - (s + 1))) := by obtain ⟨mb, h1, _⟩ := HT3.out; exact h1.rise
            have hl1 := look_mid _ (leftL cs k (k - (s + 1))) ((s : Int) + 1) 7 hrise.mid.1
            have hl2 := off_mid _ (leftL cs k (k - (s + 1))) ((s : Int) + 1) 7 hrise.mid.1 hrise.mid.2
            rw [hl1, hl2] at HCl
            clear hst hrise hl1 hl2
            go_wp2_with fail
            refine Calls.mono HCl.out ?_
            rintro e w4 ⟨rfl, h4, b4⟩
            have H4 := Lib.hid h4
            have HB4 := Lib.hid (HB3.out.trans b4)
            clear h4 b4 HCl
            go_wp2_with fail
            go_roundw
            case rel => exact ⟨s, (s : Int) - 1, by omega, rfl, Lib.hid rfl, by rw [HST.out, ← HXX.out], by rw [HST.out]; exact H4.out, HB4.out⟩
            case measure => (first | (simp [intOf]; done) | (simp [intOf]; omega))
theorem finds_walk (w : World) (A : Option Addr) (cs : List Bool) (c : Nat) (hc : cs.length ≤ c) (hm : c ≤ maxLen) (hr : Rd boV w w.heap.size A cs) : Calls Try.prog 6 #[.slice A cs.length c] w (TruP (.bool true) w) := by
  by_cases h : cs.length = 0 ∨ 100 < cs.length
  · exact finds_out w A cs.length c h (Nat.le_trans hc hm)
  · exact finds_in w A cs c (by omega) (by omega) hc hr
end Go.Proofs.Ytflocdghpnjoaaa
namespace Go.Proofs.Ytflocdghpnjoaaa.handFinds
open Go.ChangeShapes Go.WideShapes Go.ChangeAt Go.RowKit
open Go.ChangeMaps (open_string shut_string)
set_option linter.unusedVariables false
set_option maxRecDepth 100000 in
theorem lifted (os : Os) (started : os.Started) (H : Type) (enc : TypeId × Value → H) :
    ReturnsInHanded {} Try.checked os 6 .any (Rows.handFindsSpec.pre6 enc Try.prog Try.f6 Rows.handFindsRow.domain false) (Rows.handFindsSpec.post enc Try.prog Try.f6 false true false false) := by
  refine returnsInHanded_of_change (C := Try.checked) own started (by kernel_rfl) Try.func6
    (ChangeSpec.witness6 (enc := enc) (C := Try.checked) false ⟨#[], #[.slice none 0 0], []⟩ 8 (by kernel_rfl) (by kernel_rfl) (by kernel_rfl) (by kernel_rfl)) ?_
  intro W base args ds gs before hval0 hW hcnd _
  have hval : ∀ (j : Nat) t v, Try.f6.params[j]? = some t → args[j]? = some v → Value.okWide Try.prog W .any base t v := hval0
  have hW' := hW
  obtain ⟨p, q, hA0, hV, rfl, hfz, hnd⟩ := hW
  have hA : DataW.TrodAll enc Try.prog W 0 (fun _ => true) true Try.f6.params.toList args.toList ds p := hA0
  rw [Try.params6] at hA hval
  obtain ⟨v0, vs0, d0, ds0, p0, q0, hargs, rfl, rfl, h0, r0⟩ := trodAll_cons hA
  obtain ⟨rfl, rfl, rfl⟩ := trodAll_nil r0
  obtain rfl : args = #[v0] := by cases args; simp_all
  obtain ⟨rfl, rfl⟩ := trodVars_none hV
  have k0 := h0
  have lt0 : ∀ x ∈ p0, x.block < W.heap.size := by obtain ⟨m, hm⟩ := k0; exact DataW.trod_lt m _ _ _ hm
  obtain ⟨A0, a0, c0, e0v, g0, m0, w0⟩ := open_bools Try.underlying46 Try.underlying4 (by kernel_rfl) (hval 0 46 v0 rfl rfl) h0; subst e0v
  clear hA0 hval0
  refine (finds_walk W A0 a0 c0 g0 m0 w0).mono fun e W' ⟨he, bel⟩ => ?_
  subst he
  exact ⟨_, rfl, _, _, _, [], _, [], hW', trodAll_mk1 (shut_bool Try.underlying4 _), (trodAll_cons_mk (Below.trod laidOut (by kernel_rfl) (of_decide_eq_true (by kernel_rfl)) k0 bel lt0) trodAll_mk0), rfl, bel.frame _, fun h => by cases h⟩
theorem over : Rows.handFindsRow.holds Try.pinned (OpenSpec.ofChange Rows.handFindsSpec) :=
  OpenClaim.holds_of_wide 6 Try.f6 rfl rfl rfl rfl rfl rfl rfl ⟨rfl, rfl, rfl, rfl, rfl⟩ rfl rfl rfl rfl rfl (by kernel_rfl) Try.func6 (by kernel_rfl)
    (of_decide_eq_true (by kernel_rfl)) (by unfold Func.isWrapper; first | (rw [if_pos (by decide +kernel)]; kernel_rfl) | (rw [if_neg (by decide +kernel)]; exact ⟨rfl, rfl⟩))
    (fun os started H enc _ => lifted os started H enc)
theorem proved : Rows.HandFindsSaid := over
end Go.Proofs.Ytflocdghpnjoaaa.handFinds
