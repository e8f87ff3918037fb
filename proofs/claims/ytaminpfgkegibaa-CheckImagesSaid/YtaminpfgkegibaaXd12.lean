/- Texts joined: CkY CkZ PwC RbY CkT CkR CkS CkU. -/
import Derived.Test.YtaminpfgkegibaaXd11
/- check.Image of any words. Conditions: at most 8192 words. -/
namespace Go.Proofs.Ytaminpfgkegibaa
set_option linter.unusedVariables false
set_option linter.unusedSimpArgs false
open Go.RowKit Go.Maps
set_option maxHeartbeats 8000000
set_option maxRecDepth 100000
theorem sizedS_c (w : World) (A : Option Addr) (n c : Nat) (h : n < 2) : Calls Try.prog 20 #[.slice A n c] w (RetP (.tuple #[.int .i64 0, .bool false]) w) := by
  have n2 : (n : Int) < 2 := by omega
  clear h
  go_enter Try.func20, Try.ntmps20
  go_wp2_with fail
  go_ret2
  exact ⟨rfl, Below.refl _ _⟩
theorem sz3h (Q : Exit → Act → World → Prop) (a0 : Act) (w : World) (ad : Addr) (n c : Nat) (x : BitVec 64) (n2 : ¬ (n : Int) ≤ 1) (hq : ad.block < w.heap.size) (g0 : w.cell? ⟨ad.block, ad.off + 1, none⟩ = some (.int .u64 (U64 x))) (hsz : a0.tmps.size = 50) (sl0 : a0.tmps.getD 0 undef = .slice (some ad) n c)
    (fin : ∀ (vals : Nat → Value) (w1 : World), Below w.heap.size w w1 → (IsV (.int .u64 (U64 (fieldB x 0 16)))) (vals 12) w1 → (IsV (.int .u64 (U64 (fieldB x 16 32)))) (vals 13) w1 → (IsV (.int .u64 (U64 (fieldB x 48 16)))) (vals 14) w1 → Q .normal (putD vals [15, 16, 17, 18, 19, 20, 21, 22, 23, 24, 25, 26, 4, 5, 6] 0 a0) w1) :
    (Code.region 3 (regIn Try.f20 3) true).wp Try.prog Q a0 w := by
  refine region_by (G := fun w w1 => Below w.heap.size w w1) [IsV (.slice (some ad) n c),
    IsV (.pointer (some ⟨ad.block, ad.off + 1, none⟩)),
    IsV (.int .u64 (U64 x)),
    IsV (.int .u64 (U64 (fieldB x 0 16))),
    IsV (.slice (some ad) n c),
    IsV (.pointer (some ⟨ad.block, ad.off + 1, none⟩)),
    IsV (.int .u64 (U64 x)),
    IsV (.int .u64 (U64 (fieldB x 16 32))),
    IsV (.slice (some ad) n c),
    IsV (.pointer (some ⟨ad.block, ad.off + 1, none⟩)),
    IsV (.int .u64 (U64 x)),
    IsV (.int .u64 (U64 (fieldB x 48 16))),
    IsV (.int .u64 (U64 (fieldB x 0 16))),
    IsV (.int .u64 (U64 (fieldB x 16 32))),
    IsV (.int .u64 (U64 (fieldB x 48 16)))]
    [15, 16, 17, 18, 19, 20, 21, 22, 23, 24, 25, 26, 4, 5, 6] (by kernel_rfl) (Gw.drew _) Gw.trans (by rw [hsz]; kernel_rfl) (by kernel_rfl) ?_ ?_ ?_
  · intro f hf
    simp only [List.mem_cons, List.not_mem_nil, or_false] at hf
    rcases hf with rfl | rfl | rfl | rfl | rfl | rfl | rfl | rfl | rfl | rfl | rfl | rfl | rfl | rfl | rfl <;> intro v a b h g <;> first | exact IsV.mono h
  · refine ⟨?_, ?_, ?_, ?_, ?_, ?_, ?_, ?_, ?_, ?_, ?_, ?_, ?_, ?_, ?_, trivial⟩
    · exact owes_mv 0 (by kernel_rfl) (by kernel_rfl) (by kernel_rfl) sl0 (fun _ => rfl)
    · refine owes_v (Go.Op.indexAddr 22 (Go.Operand.tmp 15) (Go.Operand.const (Go.Value.int Go.IntKind.i64 1))) 0 [0] (by kernel_rfl) (by kernel_rfl) (by kernel_rfl) rfl fun vals w1 ρ hG hF hρ hcst hfun => ?_
      have e15 : ρ (.tmp 15) = .slice (some ad) n c := ((hρ 15).trans (slotJ [0] (by rw [hsz]; decide) (by kernel_rfl))).trans (hF 0 (by decide))
      clear hρ hF hfun sl0 fin
      exact opv_val (by go_simp <;> rfl) ⟨gw_self _, rfl⟩
    · refine owes_v (Go.Op.load 57 (Go.Operand.tmp 16)) 57 [1] (by kernel_rfl) (by kernel_rfl) (by kernel_rfl) rfl fun vals w1 ρ hG hF hρ hcst hfun => ?_
      have e16 : ρ (.tmp 16) = .pointer (some ⟨ad.block, ad.off + 1, none⟩) := ((hρ 16).trans (slotJ [1] (by rw [hsz]; decide) (by kernel_rfl))).trans (hF 1 (by decide))
      have k := (hG.cell (p := ⟨ad.block, ad.off + 1, none⟩) hq).trans g0
      clear hρ hF hcst hfun sl0 fin
      exact opv_val (by go_simp <;> rfl) ⟨gw_self _, rfl⟩
    · refine owes_v (Go.Op.call { callee := Go.Callee.value (Go.Operand.func 45), args := #[Go.Operand.tmp 17, Go.Operand.const (Go.Value.int Go.IntKind.i64 0), Go.Operand.const (Go.Value.int Go.IntKind.i64 16)], argTypes := #[57, 3, 3] }) 57 [2] (by kernel_rfl) (by kernel_rfl) (by kernel_rfl) rfl fun vals w1 ρ hG hF hρ hcst hfun => ?_
      have e17 : ρ (.tmp 17) = .int .u64 (U64 x) := ((hρ 17).trans (slotJ [2] (by rw [hsz]; decide) (by kernel_rfl))).trans (hF 2 (by decide))
      clear hρ hF sl0 fin
      exact opv_enter (by go_simp <;> rfl) (of_ansk (field_c x 0 16 w1))
    · exact owes_mv 0 (by kernel_rfl) (by kernel_rfl) (by kernel_rfl) sl0 (fun _ => rfl)
    · refine owes_v (Go.Op.indexAddr 22 (Go.Operand.tmp 19) (Go.Operand.const (Go.Value.int Go.IntKind.i64 1))) 0 [4] (by kernel_rfl) (by kernel_rfl) (by kernel_rfl) rfl fun vals w1 ρ hG hF hρ hcst hfun => ?_
      have e19 : ρ (.tmp 19) = .slice (some ad) n c := ((hρ 19).trans (slotJ [4] (by rw [hsz]; decide) (by kernel_rfl))).trans (hF 4 (by decide))
      clear hρ hF hfun sl0 fin
      exact opv_val (by go_simp <;> rfl) ⟨gw_self _, rfl⟩
    · refine owes_v (Go.Op.load 57 (Go.Operand.tmp 20)) 57 [5] (by kernel_rfl) (by kernel_rfl) (by kernel_rfl) rfl fun vals w1 ρ hG hF hρ hcst hfun => ?_
      have e20 : ρ (.tmp 20) = .pointer (some ⟨ad.block, ad.off + 1, none⟩) := ((hρ 20).trans (slotJ [5] (by rw [hsz]; decide) (by kernel_rfl))).trans (hF 5 (by decide))
      have k := (hG.cell (p := ⟨ad.block, ad.off + 1, none⟩) hq).trans g0
      clear hρ hF hcst hfun sl0 fin
      exact opv_val (by go_simp <;> rfl) ⟨gw_self _, rfl⟩
    · refine owes_v (Go.Op.call { callee := Go.Callee.value (Go.Operand.func 45), args := #[Go.Operand.tmp 21, Go.Operand.const (Go.Value.int Go.IntKind.i64 16), Go.Operand.const (Go.Value.int Go.IntKind.i64 32)], argTypes := #[57, 3, 3] }) 57 [6] (by kernel_rfl) (by kernel_rfl) (by kernel_rfl) rfl fun vals w1 ρ hG hF hρ hcst hfun => ?_
      have e21 : ρ (.tmp 21) = .int .u64 (U64 x) := ((hρ 21).trans (slotJ [6] (by rw [hsz]; decide) (by kernel_rfl))).trans (hF 6 (by decide))
      clear hρ hF sl0 fin
      exact opv_enter (by go_simp <;> rfl) (of_ansk (field_c x 16 32 w1))
    · exact owes_mv 0 (by kernel_rfl) (by kernel_rfl) (by kernel_rfl) sl0 (fun _ => rfl)
    · refine owes_v (Go.Op.indexAddr 22 (Go.Operand.tmp 23) (Go.Operand.const (Go.Value.int Go.IntKind.i64 1))) 0 [8] (by kernel_rfl) (by kernel_rfl) (by kernel_rfl) rfl fun vals w1 ρ hG hF hρ hcst hfun => ?_
      have e23 : ρ (.tmp 23) = .slice (some ad) n c := ((hρ 23).trans (slotJ [8] (by rw [hsz]; decide) (by kernel_rfl))).trans (hF 8 (by decide))
      clear hρ hF hfun sl0 fin
      exact opv_val (by go_simp <;> rfl) ⟨gw_self _, rfl⟩
    · refine owes_v (Go.Op.load 57 (Go.Operand.tmp 24)) 57 [9] (by kernel_rfl) (by kernel_rfl) (by kernel_rfl) rfl fun vals w1 ρ hG hF hρ hcst hfun => ?_
      have e24 : ρ (.tmp 24) = .pointer (some ⟨ad.block, ad.off + 1, none⟩) := ((hρ 24).trans (slotJ [9] (by rw [hsz]; decide) (by kernel_rfl))).trans (hF 9 (by decide))
      have k := (hG.cell (p := ⟨ad.block, ad.off + 1, none⟩) hq).trans g0
      clear hρ hF hcst hfun sl0 fin
      exact opv_val (by go_simp <;> rfl) ⟨gw_self _, rfl⟩
    · refine owes_v (Go.Op.call { callee := Go.Callee.value (Go.Operand.func 45), args := #[Go.Operand.tmp 25, Go.Operand.const (Go.Value.int Go.IntKind.i64 48), Go.Operand.const (Go.Value.int Go.IntKind.i64 16)], argTypes := #[57, 3, 3] }) 57 [10] (by kernel_rfl) (by kernel_rfl) (by kernel_rfl) rfl fun vals w1 ρ hG hF hρ hcst hfun => ?_
      have e25 : ρ (.tmp 25) = .int .u64 (U64 x) := ((hρ 25).trans (slotJ [10] (by rw [hsz]; decide) (by kernel_rfl))).trans (hF 10 (by decide))
      clear hρ hF sl0 fin
      exact opv_enter (by go_simp <;> rfl) (of_ansk (field_c x 48 16 w1))
    · exact owes_mvj 3 18 (by kernel_rfl) (by kernel_rfl) (by kernel_rfl) (by kernel_rfl) (by rw [hsz]; decide) (fun v w h => h)
    · exact owes_mvj 7 22 (by kernel_rfl) (by kernel_rfl) (by kernel_rfl) (by kernel_rfl) (by rw [hsz]; decide) (fun v w h => h)
    · exact owes_mvj 11 26 (by kernel_rfl) (by kernel_rfl) (by kernel_rfl) (by kernel_rfl) (by rw [hsz]; decide) (fun v w h => h)
  · intro vals w1 hG hF
    exact fin vals w1 hG (hF 12 (by decide +kernel)) (hF 13 (by decide +kernel)) (hF 14 (by decide +kernel))
theorem sizedG_c (w : World) (ad : Addr) (n c R : Nat) (x : BitVec 64) (h2 : 2 ≤ n) (hn : n ≤ 8192) (hq : ad.block < w.heap.size) (g0 : w.cell? ⟨ad.block, ad.off + 1, none⟩ = some (.int .u64 (U64 x))) (h0 : U64 (fieldB x 0 16) = (R : Int)) (hR : R < 65536) (ok : Bool) (hok : ok = decide (U64 (fieldB x 48 16) = 0 ∧ U64 (fieldB x 16 32) = (n : Int) ∧ R ≤ 64 ∧ 2 + 5 * R ≤ n)) : Calls Try.prog 20 #[.slice (some ad) n c] w (RetP (.tuple #[.int .i64 (if ok = true then (R : Int) else 0), .bool ok]) w) := by
  have nI : (n : Int) ≤ 8192 := by omega
  have n1 : ¬ (n : Int) < 2 := by omega
  have n3 : ¬ (8192 : Int) < (n : Int) := by omega
  have n4 : (0 : Int) ≤ (n : Int) := by omega
  have r2 : (R : Int) ≤ 65535 := by omega
  have r3 : (0 : Int) ≤ (R : Int) := by omega
  obtain ⟨a48, ha48⟩ : ∃ a, a = U64 (fieldB x 48 16) := ⟨_, rfl⟩
  obtain ⟨a16, ha16⟩ : ∃ a, a = U64 (fieldB x 16 32) := ⟨_, rfl⟩
  rw [← ha48, ← ha16] at hok
  have HA := Lib.hid (And.intro ha48 (And.intro ha16 h0))
  have HB := Lib.hid (ckbaseR_c R (by omega))
  obtain ⟨bb, hbb⟩ : ∃ bb, bb = 2 + 5 * R := ⟨_, rfl⟩
  rw [← hbb] at HB hok
  have b2 : (bb : Int) ≤ 400000 := by omega
  have HQ := Lib.hid (And.intro hq g0)
  have hn2 : 2 ≤ n := h2
  clear ha48 ha16 h0 hbb hq g0 hR h2 hn
  by_cases c1 : a48 = 0
  · by_cases c2 : a16 = (n : Int)
    · by_cases c3 : R ≤ 64
      · by_cases c4 : bb ≤ n
        · have hk : ok = true := by rw [hok]; exact decide_eq_true ⟨c1, c2, c3, c4⟩
          have HOk := Lib.hid hk
          subst hk
          clear hok
          have k3 : ¬ (64 : Int) < (R : Int) := by omega
          have k4 : ¬ (n : Int) < (bb : Int) := by omega
          subst c1 c2
          go_enter Try.func20, Try.ntmps20
          go_wp2_with fail
          refine sz3h _ _ _ ad n c x (by omega) HQ.out.1 HQ.out.2 rfl ?_ ?_
          · rfl
          intro vals w1 hG h4 h5 h6
          unfold IsV at h4 h5 h6
          rw [← HA.out.1] at h6
          rw [← HA.out.2.1] at h5
          rw [HA.out.2.2] at h4
          simp only [putD, Act.put, List.setIfInBounds_toArray, List.set_cons_zero, List.set_cons_succ, h4, h5, h6]
          have H1 := Lib.hid hG
          clear hG h4 h5 h6
          go_wp2_with fail
          refine Calls.mono (HB.out w1) ?_
          rintro r w2 ⟨rfl, b3⟩
          have H2 := Lib.hid (H1.out.trans (b3.mono H1.out.size))
          clear b3
          go_wp2_with fail
          go_ret2
          exact ⟨rfl, H2.out⟩
        · have hk : ok = false := by rw [hok]; exact decide_eq_false (fun h => c4 h.2.2.2)
          have HOk := Lib.hid hk
          subst hk
          clear hok
          have k3 : ¬ (64 : Int) < (R : Int) := by omega
          have k4 : (n : Int) < (bb : Int) := by omega
          subst c1 c2
          go_enter Try.func20, Try.ntmps20
          go_wp2_with fail
          refine sz3h _ _ _ ad n c x (by omega) HQ.out.1 HQ.out.2 rfl ?_ ?_
          · rfl
          intro vals w1 hG h4 h5 h6
          unfold IsV at h4 h5 h6
          rw [← HA.out.1] at h6
          rw [← HA.out.2.1] at h5
          rw [HA.out.2.2] at h4
          simp only [putD, Act.put, List.setIfInBounds_toArray, List.set_cons_zero, List.set_cons_succ, h4, h5, h6]
          have H1 := Lib.hid hG
          clear hG h4 h5 h6
          go_wp2_with fail
          refine Calls.mono (HB.out w1) ?_
          rintro r w2 ⟨rfl, b3⟩
          have H2 := Lib.hid (H1.out.trans (b3.mono H1.out.size))
          clear b3
          go_wp2_with fail
          go_ret2
          exact ⟨rfl, H2.out⟩
      · have hk : ok = false := by rw [hok]; exact decide_eq_false (fun h => c3 h.2.2.1)
        have HOk := Lib.hid hk
        subst hk
        clear hok
        have k3 : (64 : Int) < (R : Int) := by omega
        subst c1 c2
        go_enter Try.func20, Try.ntmps20
        go_wp2_with fail
        refine sz3h _ _ _ ad n c x (by omega) HQ.out.1 HQ.out.2 rfl ?_ ?_
        · rfl
        intro vals w1 hG h4 h5 h6
        unfold IsV at h4 h5 h6
        rw [← HA.out.1] at h6
        rw [← HA.out.2.1] at h5
        rw [HA.out.2.2] at h4
        simp only [putD, Act.put, List.setIfInBounds_toArray, List.set_cons_zero, List.set_cons_succ, h4, h5, h6]
        have H1 := Lib.hid hG
        clear hG h4 h5 h6
        go_wp2_with fail
        go_ret2
        exact ⟨rfl, H1.out⟩
    · have hk : ok = false := by rw [hok]; exact decide_eq_false (fun h => c2 h.2.1)
      have HOk := Lib.hid hk
      subst hk
      clear hok
      have k2 : (a16 != (n : Int)) = true := by simpa using c2
      subst c1
      go_enter Try.func20, Try.ntmps20
      go_wp2_with fail
      refine sz3h _ _ _ ad n c x (by omega) HQ.out.1 HQ.out.2 rfl ?_ ?_
      · rfl
      intro vals w1 hG h4 h5 h6
      unfold IsV at h4 h5 h6
      rw [← HA.out.1] at h6
      rw [← HA.out.2.1] at h5
      rw [HA.out.2.2] at h4
      simp only [putD, Act.put, List.setIfInBounds_toArray, List.set_cons_zero, List.set_cons_succ, h4, h5, h6]
      have H1 := Lib.hid hG
      clear hG h4 h5 h6
      go_wp2_with fail
      go_ret2
      exact ⟨rfl, H1.out⟩
  · have hk : ok = false := by rw [hok]; exact decide_eq_false (fun h => c1 h.1)
    have HOk := Lib.hid hk
    subst hk
    clear hok
    have k1 : (a48 != 0) = true := by simpa using c1
    go_enter Try.func20, Try.ntmps20
    go_wp2_with fail
    refine sz3h _ _ _ ad n c x (by omega) HQ.out.1 HQ.out.2 rfl ?_ ?_
    · rfl
    intro vals w1 hG h4 h5 h6
    unfold IsV at h4 h5 h6
    rw [← HA.out.1] at h6
    rw [← HA.out.2.1] at h5
    rw [HA.out.2.2] at h4
    simp only [putD, Act.put, List.setIfInBounds_toArray, List.set_cons_zero, List.set_cons_succ, h4, h5, h6]
    have H1 := Lib.hid hG
    clear hG h4 h5 h6
    go_wp2_with fail
    go_ret2
    exact ⟨rfl, H1.out⟩
end Go.Proofs.Ytaminpfgkegibaa
/- check.Image of any words: the walk. Conditions: at most 8192 words. -/
namespace Go.Proofs.Ytaminpfgkegibaa
set_option linter.unusedVariables false
set_option linter.unusedSimpArgs false
open Go.RowKit Go.Maps
set_option maxHeartbeats 8000000
set_option maxRecDepth 100000
theorem fr_slice {w : World} {B : Nat} {v : Value} {l : List (Nat × ByteArray)} (h : FR w B v l) : ∃ A n c, v = .slice A n c := by
  obtain ⟨A, c, e, _⟩ := h.slice_
  exact ⟨A, _, c, e⟩
/-- What is told of words of any length. -/
theorem imageS_c (w : World) (A : Option Addr) (c : Nat) : Calls Try.prog 8 #[.slice A 0 c] w (FiP [(0, magicS), (1, sizeS)] w) := by
  have HSz := Lib.hid (fun W => sizedS_c W A 0 c (by decide))
  go_enter Try.func8, Try.ntmps8
  have HF := Lib.hid (fun v W (h : FR W w.heap.size v ([] ++ [(0, magicS)])) => fr_some (n := 1) h rfl)
  go_wp2_with (at_builtin; refine wp_appF rfl (.tmp 18) (.tmp 20) rfl rfl (FR.nil _ w.heap.size) (some ⟨w.heap.size, 0, none⟩) 1 1 [(0, magicS)] rfl rfl (rdF_new w 0 magicS) (by decide) (Gw.alloc w _).size ?_; intro v1 w1 ho1 hb1 hg1 hj1; have H1 := Lib.hid (And.intro ho1 ((Gw.alloc w _).trans hb1)); clear hb1 hg1 hj1; obtain ⟨q1, c1, e1⟩ := HF.out _ _ ho1; subst e1; clear ho1)
  refine Calls.mono (HSz.out w1) ?_
  rintro r w2 ⟨rfl, b2⟩
  have H2 := Lib.hid (And.intro (H1.out.1.below b2) (H1.out.2.trans (b2.mono H1.out.2.size)))
  clear b2
  go_wp2_with (at_builtin; refine wp_appF rfl (.tmp 29) (.tmp 31) rfl rfl (H2.out.1.below (Gw.alloc w2 _)) (some ⟨w2.heap.size, 0, none⟩) 1 1 [(1, sizeS)] rfl rfl (rdF_new w2 1 sizeS) (by decide) (Nat.le_trans H2.out.2.size (Gw.alloc w2 _).size) ?_; intro v3 w3 ho3 hb3 hg3 hj3; have H3 := Lib.hid (And.intro ho3 ((H2.out.2.trans ((Gw.alloc w2 _).mono H2.out.2.size)).trans hb3)); clear ho3 hb3 hg3 hj3)
  go_ret
  exact ⟨v3, rfl, H3.out.1, H3.out.2⟩
theorem imageG_c (w : World) (A : Option Addr) (c : Nat) (ws : List (BitVec 64)) (hr : Rd u64v w w.heap.size A ws) (h8 : ws.length ≤ 8192) (hl : (imgF ws).length ≤ 5000) : Calls Try.prog 8 #[.slice A ws.length c] w (FiP (imgF ws) w) := by
  by_cases h0 : ws.length = 0
  · have e : imgF ws = [(0, magicS), (1, sizeS)] := by
      unfold imgF magF szOk
      rw [if_pos (.inl h0), if_neg (by rw [decide_eq_true_eq]; omega)]
      rfl
    rw [e, h0]
    exact imageS_c w A c
  · obtain ⟨ad, rfl, hadl, ga⟩ := hr 0 (by omega)
    have e0 : ws.getD 0 0#64 = ws[0] := by rw [List.getD_eq_getElem?_getD, List.getElem?_eq_getElem (by omega)]; rfl
    have g0 : w.cell? ad = some (.int .u64 (U64 ws[0])) := ga
    rw [← e0] at g0
    clear ga
    obtain ⟨x0, hx0⟩ : ∃ x, x = ws.getD 0 0#64 := ⟨_, rfl⟩
    rw [← hx0] at g0
    obtain ⟨E, hE⟩ : ∃ E, E = FiP (imgF ws) w := ⟨_, rfl⟩
    rw [← hE]
    have HE := Lib.hid hE
    obtain ⟨ok, hok⟩ : ∃ ok, ok = szOk ws := ⟨_, rfl⟩
    obtain ⟨R, hR⟩ : ∃ R, R = nRt ws := ⟨_, rfl⟩
    obtain ⟨n, hn⟩ : ∃ n, n = ws.length := ⟨_, rfl⟩
    have hR6 : R < 65536 := by rw [hR]; unfold nRt; exact Nat.mod_lt _ (by decide)
    have HSz := Lib.hid (fun W (b : Below w.heap.size w W) => show Calls Try.prog 20 #[.slice (some ad) n c] W (RetP (.tuple #[.int .i64 (if ok = true then (R : Int) else 0), .bool ok]) W) from by
      by_cases h2 : n < 2
      · have e1 : ok = false := by rw [hok]; exact decide_eq_false (fun h => by omega)
        rw [e1]
        exact sizedS_c W (some ad) n c h2
      · obtain ⟨ad', had', hl', g1⟩ := ((hr.below b).more b.size) 1 (by omega)
        injection had' with had'
        subst had'
        have e1 : ws.getD 1 0#64 = ws[1] := by rw [List.getD_eq_getElem?_getD, List.getElem?_eq_getElem (by omega)]; rfl
        have g1 : W.cell? ⟨ad.block, ad.off + 1, none⟩ = some (.int .u64 (U64 ws[1])) := g1
        rw [← e1] at g1
        exact sizedG_c W ad n c R (ws.getD 1 0#64) (by omega) (by omega) hl' g1 (by rw [field_nR, hR]; rfl) hR6 ok (by
          rw [hok]
          unfold szOk
          rw [← hn, ← hR]
          by_cases hh : U64 (fieldB (ws.getD 1 0#64) 48 16) = 0 ∧ U64 (fieldB (ws.getD 1 0#64) 16 32) = (n : Int) ∧ R ≤ 64 ∧ 2 + 5 * R ≤ n
          · rw [decide_eq_true hh, decide_eq_true ⟨by omega, hh⟩]
          · rw [decide_eq_false hh, decide_eq_false (fun h => hh h.2)]))
    have HOf := Lib.hid (fun W (b : Below w.heap.size w W) => of_in W (some ad) c ws ((hr.below b).more b.size) h8)
    rw [← hn] at HOf ⊢
    have HBs := Lib.hid (ckbaseR_c R (by omega))
    obtain ⟨bb, hbb⟩ : ∃ bb, bb = 2 + 5 * R := ⟨_, rfl⟩
    rw [← hbb] at HBs
    obtain ⟨mf, hmf⟩ : ∃ mf, mf = magF ws := ⟨_, rfl⟩
    have hml : mf.length ≤ 1 := by rw [hmf]; unfold magF; split <;> simp
    have himg : imgF ws = mf ++ (if ok = true then insF ws R else [(1, sizeS)]) := by unfold imgF; rw [hok, hR, hmf]
    have HX := Lib.hid (And.intro hok (And.intro hR (And.intro hn (And.intro hbb (And.intro h8 (And.intro himg (And.intro hl hml)))))))
    have n1 : ¬ (n : Int) = 0 := by omega
    have nI : (n : Int) ≤ 8192 := by omega
    have n2 : (1 : Int) ≤ (n : Int) := by omega
    by_cases hmg : x0 = 1296125772#64
    · have hme : mf = [] := by rw [hmf]; unfold magF; rw [if_neg (by rw [← hx0]; intro h; rcases h with h | h; exact h0 h; exact h hmg)]
      have HMe := Lib.hid hme
      subst hmg
      replace g0 : w.cell? ad = some (.int .u64 1296125772) := g0
      have H0 := Lib.hid (show FR w w.heap.size (.slice none 0 0) mf ∧ Below w.heap.size w w from ⟨by rw [hme]; exact FR.nil _ _, Below.refl _ _⟩)
      clear hE hr h8 hl hok hR hn hbb hmf hml himg hx0 e0 h0 hR6 hme
      go_enter Try.func8, Try.ntmps8
      go_wp2_with fail
      clear g0
      refine Calls.mono (HSz.out w H0.out.2) ?_
      rintro r w1 ⟨rfl, b1⟩
      have H1 := Lib.hid (show FR w1 w.heap.size (.slice none 0 0) mf ∧ Below w.heap.size w w1 from ⟨H0.out.1.below b1, H0.out.2.trans (b1.mono H0.out.2.size)⟩)
      clear b1 H0 HSz
      cases ok with
      | false =>
        rw [if_neg (by decide)]
        go_wp2_with (at_builtin; refine wp_appF rfl (.tmp 29) (.tmp 31) rfl rfl (H1.out.1.below (Gw.alloc w1 _)) (some ⟨w1.heap.size, 0, none⟩) 1 1 [(1, sizeS)] rfl rfl (rdF_new w1 1 sizeS) (by have := HX.out.2.2.2.2.2.2.2; simp; omega) (Nat.le_trans H1.out.2.size (Gw.alloc w1 _).size) ?_; intro v3 w3 ho3 hb3 hg3 hj3; have H3 := Lib.hid (And.intro ho3 ((H1.out.2.trans ((Gw.alloc w1 _).mono H1.out.2.size)).trans hb3)); clear ho3 hb3 hg3 hj3)
        rw [HE.out]
        exact ⟨v3, rfl, by rw [HX.out.2.2.2.2.2.1]; exact H3.out.1, H3.out.2⟩
      | true =>
        rw [if_pos rfl]
        have hso := HX.out.1.symm
        unfold szOk at hso
        rw [decide_eq_true_eq, ← HX.out.2.1, ← HX.out.2.2.1] at hso
        obtain ⟨s1, _, _, s4, s5⟩ := hso
        obtain ⟨G, hG⟩ : ∃ G, G = insF ws R := ⟨_, rfl⟩
        have himg : imgF ws = mf ++ G := by rw [HX.out.2.2.2.2.2.1, if_pos rfl, hG]
        have hGl : G.length ≤ 5000 := by
          have h1 := HX.out.2.2.2.2.2.2.1
          rw [himg, List.length_append] at h1
          omega
        obtain ⟨F, hF⟩ : ∃ F, F = foundN ws n (n + 1) bb := ⟨_, rfl⟩
        have hins : G = badF F.2 ++ allE ws F.1 F.1 ++ rootF ws F.1 R 0 ⟨#[]⟩ := by rw [hG, hF, HX.out.2.2.2.1, HX.out.2.2.1]; rfl
        have HG := Lib.hid (And.intro himg (And.intro hGl (And.intro hF.symm (And.intro hins (And.intro s4 (show bb ≤ n from by rw [HX.out.2.2.2.1]; exact s5))))))
        have r1 : (R : Int) ≤ 64 := by omega
        clear s1 s4 s5 hG himg hGl hF hins
        go_wp2_with fail
        refine Calls.mono (HOf.out w1 H1.out.2) ?_
        rintro r w2 ⟨g, v, rfl, hm, b2⟩
        have H2 := Lib.hid (show MemAt w2 w1.heap.size g v ws ∧ FR w2 w.heap.size (.slice none 0 0) mf ∧ Below w.heap.size w w2 ∧ w1.heap.size ≤ w2.heap.size from ⟨hm, H1.out.1.below b2, H1.out.2.trans (b2.mono H1.out.2.size), b2.size⟩)
        clear hm b2 HOf
        go_wp2_with fail
        refine Calls.mono (HBs.out w2) ?_
        rintro r w3 ⟨rfl, b3⟩
        have HB3 := Lib.hid b3
        clear b3
        go_wp2_with fail
        have b3 := HB3.out
        obtain ⟨s, hs⟩ : ∃ s, s = w3.heap.size := ⟨_, rfl⟩
        obtain ⟨w4, hw4⟩ : ∃ w4, w4 = w3.alloc (.cells #[.pointer (some ⟨g, 0, none⟩), .int .i64 (bb : Int), .int .i64 (n : Int), .int .i64 (n : Int)] 67) := ⟨_, rfl⟩
        have hbk : Bk w4 s 67 #[.pointer (some ⟨g, 0, none⟩), .int .i64 (bb : Int), .int .i64 (n : Int), .int .i64 (n : Int)] := by rw [hw4, hs]; exact Bk.new w3 _ _
        have b34 : Below w3.heap.size w3 w4 := by rw [hw4]; exact Gw.alloc w3 _
        have hmm := H2.out.1.below b3
        have hsp : SpAt w4 w1.heap.size s g v ws bb n n := by
          have hlt := hmm.blk.lt
          exact ⟨hmm.below b34, hbk, by omega, fun h => by have := (hmm.row.lt _ h).2; omega, by have := H2.out.2.2.2; have := b3.size; omega, HG.out.2.2.2.2.2, Nat.le_refl _, by rw [HX.out.2.2.1]; exact Nat.le_refl _⟩
        have b04 : Below w.heap.size w w4 := (H2.out.2.2.1.trans (b3.mono H2.out.2.2.1.size)).trans (b34.mono (by have := H2.out.2.2.1.size; have := b3.size; omega))
        have HLk := Lib.hid (lookG_c w4 hsp HX.out.2.2.2.2.1 F HG.out.2.2.1)
        have H4 := Lib.hid (And.intro hsp (And.intro b04 ((H2.out.2.1.below b3).below b34)))
        rw [← hw4, ← hs]
        clear b3 H2 H1 hw4 hbk b34 hmm hsp b04 hs
        refine Calls.mono HLk.out ?_
        rintro r w5 ⟨Xb, mb, rv, lv, rfl, h5, b5⟩
        have hpg : ∀ a ∈ F.1, bb ≤ a ∧ a < n ∧ goodX (ws.getD a 0#64) (n - a) = true := fun a ha => found_good ws n (n + 1) bb a (by rw [HG.out.2.2.1]; exact ha)
        have hpl : F.1.length ≤ 8192 := by
          have h2 := found_len ws n (n + 1) bb
          rw [HG.out.2.2.1] at h2
          have := HX.out.2.2.2.2.1
          have := HX.out.2.2.1
          omega
        have hGl : (badF F.2 ++ allE ws F.1 F.1).length ≤ 5000 := by
          have h1 := HG.out.2.1
          rw [HG.out.2.2.2.1, List.length_append] at h1
          omega
        have HO := Lib.hid (lkobj_c w5 (wB := w4) (Bs := w1.heap.size) (s := s) (g := g) (v := v) (b := bb) (t := n) (e := n) ⟨rfl, H4.out.1⟩ b5 h5 hGl HX.out.2.2.2.2.1 (by rw [HX.out.2.2.1]; exact Nat.le_refl _) hpg hpl)
        have HP := Lib.hid (show ∀ a ∈ F.1, a < 8192 ∧ 1 ≤ szX (ws.getD a 0#64) from fun a ha => by
          obtain ⟨_, h2, h3⟩ := hpg a ha
          obtain ⟨_, _, _, h4, _, _⟩ := head_of h3
          have := HX.out.2.2.2.2.1
          have := HX.out.2.2.1
          exact ⟨by omega, by omega⟩)
        clear h5 b5 hpg hpl HLk hGl
        go_wp2_with fail
        refine Calls.mono HO.out ?_
        rintro r w6 ⟨rfl, lv2, h6, _, _, b6⟩
        have H6 := Lib.hid (And.intro h6 b6)
        clear h6 b6 HO
        have HR := Lib.hid (ckrootsG_c w6 R (wB := w4) (Bs := w1.heap.size) (s := s) (g := g) (v := v) (b := bb) (t := n) (e := n) ⟨rfl, H4.out.1⟩ H6.out.2 H6.out.1 (by rw [← HG.out.2.2.2.1]; have := HG.out.2.1; omega) HX.out.2.2.2.2.1 HP.out (by have h1 := HG.out.2.2.2.2.2; have h2 := HX.out.2.2.2.1; have h3 := HX.out.2.2.1; omega))
        go_wp2_with fail
        refine Calls.mono HR.out ?_
        rintro r w7 ⟨rfl, lv3, h7, _, _, b47⟩
        rw [← HG.out.2.2.2.1] at h7
        obtain ⟨c0, c1, c2, c3⟩ := h7.four
        have hXl := h7.blk.lt
        obtain ⟨A7, cc, e0, _⟩ := h7.fr.slice_
        obtain ⟨N, hN⟩ : ∃ N, N = G.length := ⟨_, rfl⟩
        rw [← hN] at e0
        subst e0
        have H7 := Lib.hid (show FR w7 w4.heap.size (.slice A7 N cc) G ∧ Below w.heap.size w w7 ∧ N = G.length ∧ mf.length + G.length ≤ 100000 ∧ FR w7 w.heap.size (.slice none 0 0) mf from ⟨h7.fr, H4.out.2.1.trans (b47.mono H4.out.2.1.size), hN, by have h1 := HX.out.2.2.2.2.2.2.2; have h2 := HG.out.2.1; omega, H4.out.2.2.below b47⟩)
        clear h7 b47 hN HR H6 HP H4
        go_wp2_with (at_builtin; refine wp_appF rfl (.tmp 59) (.tmp 63) rfl rfl H7.out.2.2.2.2 A7 N cc _ rfl H7.out.2.2.1 H7.out.1.rdf H7.out.2.2.2.1 H7.out.2.1.size ?_; intro v8 w8 ho8 hb8 hg8 hj8; have H8 := Lib.hid (And.intro ho8 hb8); clear ho8 hb8 hg8 hj8)
        rw [HE.out]
        exact ⟨v8, rfl, by rw [HG.out.1]; exact H8.out.1, H7.out.2.1.trans H8.out.2⟩
    · have hme : mf = [(0, magicS)] := by rw [hmf]; unfold magF; rw [if_pos (.inr (by rw [← hx0]; exact hmg))]
      have HMe := Lib.hid hme
      have g0' : (U64 x0 != 1296125772) = true := by
        rw [bne_iff_ne]
        intro h
        exact hmg (U64_inj (show U64 x0 = U64 1296125772#64 from h))
      obtain ⟨xv, hxv⟩ : ∃ xv, xv = U64 x0 := ⟨_, rfl⟩
      rw [← hxv] at g0 g0'
      clear hE hr h8 hl hok hR hn hbb hmf hml himg hx0 e0 h0 hR6 hme hmg hxv
      go_enter Try.func8, Try.ntmps8
      go_wp2_with (at_builtin; refine wp_appF rfl (.tmp 18) (.tmp 20) rfl rfl (FR.nil _ w.heap.size) (some ⟨w.heap.size, 0, none⟩) 1 1 [(0, magicS)] rfl rfl (rdF_new w 0 magicS) (by decide) (Gw.alloc w _).size ?_; intro v1 w0 ho1 hb1 hg1 hj1; have H0 := Lib.hid (show FR w0 w.heap.size v1 mf ∧ Below w.heap.size w w0 from ⟨by rw [HMe.out]; exact ho1, (Gw.alloc w _).trans hb1⟩); obtain ⟨oA, oN, oC, e1⟩ := fr_slice ho1; subst e1; clear ho1 hb1 hg1 hj1)
      clear g0
      refine Calls.mono (HSz.out w0 H0.out.2) ?_
      rintro r w1 ⟨rfl, b1⟩
      have H1 := Lib.hid (show FR w1 w.heap.size (.slice oA oN oC) mf ∧ Below w.heap.size w w1 from ⟨H0.out.1.below b1, H0.out.2.trans (b1.mono H0.out.2.size)⟩)
      clear b1 H0 HSz
      cases ok with
      | false =>
        rw [if_neg (by decide)]
        go_wp2_with (at_builtin; refine wp_appF rfl (.tmp 29) (.tmp 31) rfl rfl (H1.out.1.below (Gw.alloc w1 _)) (some ⟨w1.heap.size, 0, none⟩) 1 1 [(1, sizeS)] rfl rfl (rdF_new w1 1 sizeS) (by have := HX.out.2.2.2.2.2.2.2; simp; omega) (Nat.le_trans H1.out.2.size (Gw.alloc w1 _).size) ?_; intro v3 w3 ho3 hb3 hg3 hj3; have H3 := Lib.hid (And.intro ho3 ((H1.out.2.trans ((Gw.alloc w1 _).mono H1.out.2.size)).trans hb3)); clear ho3 hb3 hg3 hj3)
        rw [HE.out]
        exact ⟨v3, rfl, by rw [HX.out.2.2.2.2.2.1]; exact H3.out.1, H3.out.2⟩
      | true =>
        rw [if_pos rfl]
        have hso := HX.out.1.symm
        unfold szOk at hso
        rw [decide_eq_true_eq, ← HX.out.2.1, ← HX.out.2.2.1] at hso
        obtain ⟨s1, _, _, s4, s5⟩ := hso
        obtain ⟨G, hG⟩ : ∃ G, G = insF ws R := ⟨_, rfl⟩
        have himg : imgF ws = mf ++ G := by rw [HX.out.2.2.2.2.2.1, if_pos rfl, hG]
        have hGl : G.length ≤ 5000 := by
          have h1 := HX.out.2.2.2.2.2.2.1
          rw [himg, List.length_append] at h1
          omega
        obtain ⟨F, hF⟩ : ∃ F, F = foundN ws n (n + 1) bb := ⟨_, rfl⟩
        have hins : G = badF F.2 ++ allE ws F.1 F.1 ++ rootF ws F.1 R 0 ⟨#[]⟩ := by rw [hG, hF, HX.out.2.2.2.1, HX.out.2.2.1]; rfl
        have HG := Lib.hid (And.intro himg (And.intro hGl (And.intro hF.symm (And.intro hins (And.intro s4 (show bb ≤ n from by rw [HX.out.2.2.2.1]; exact s5))))))
        have r1 : (R : Int) ≤ 64 := by omega
        clear s1 s4 s5 hG himg hGl hF hins
        go_wp2_with fail
        refine Calls.mono (HOf.out w1 H1.out.2) ?_
        rintro r w2 ⟨g, v, rfl, hm, b2⟩
        have H2 := Lib.hid (show MemAt w2 w1.heap.size g v ws ∧ FR w2 w.heap.size (.slice oA oN oC) mf ∧ Below w.heap.size w w2 ∧ w1.heap.size ≤ w2.heap.size from ⟨hm, H1.out.1.below b2, H1.out.2.trans (b2.mono H1.out.2.size), b2.size⟩)
        clear hm b2 HOf
        go_wp2_with fail
        refine Calls.mono (HBs.out w2) ?_
        rintro r w3 ⟨rfl, b3⟩
        have HB3 := Lib.hid b3
        clear b3
        go_wp2_with fail
        have b3 := HB3.out
        obtain ⟨s, hs⟩ : ∃ s, s = w3.heap.size := ⟨_, rfl⟩
        obtain ⟨w4, hw4⟩ : ∃ w4, w4 = w3.alloc (.cells #[.pointer (some ⟨g, 0, none⟩), .int .i64 (bb : Int), .int .i64 (n : Int), .int .i64 (n : Int)] 67) := ⟨_, rfl⟩
        have hbk : Bk w4 s 67 #[.pointer (some ⟨g, 0, none⟩), .int .i64 (bb : Int), .int .i64 (n : Int), .int .i64 (n : Int)] := by rw [hw4, hs]; exact Bk.new w3 _ _
        have b34 : Below w3.heap.size w3 w4 := by rw [hw4]; exact Gw.alloc w3 _
        have hmm := H2.out.1.below b3
        have hsp : SpAt w4 w1.heap.size s g v ws bb n n := by
          have hlt := hmm.blk.lt
          exact ⟨hmm.below b34, hbk, by omega, fun h => by have := (hmm.row.lt _ h).2; omega, by have := H2.out.2.2.2; have := b3.size; omega, HG.out.2.2.2.2.2, Nat.le_refl _, by rw [HX.out.2.2.1]; exact Nat.le_refl _⟩
        have b04 : Below w.heap.size w w4 := (H2.out.2.2.1.trans (b3.mono H2.out.2.2.1.size)).trans (b34.mono (by have := H2.out.2.2.1.size; have := b3.size; omega))
        have HLk := Lib.hid (lookG_c w4 hsp HX.out.2.2.2.2.1 F HG.out.2.2.1)
        have H4 := Lib.hid (And.intro hsp (And.intro b04 ((H2.out.2.1.below b3).below b34)))
        rw [← hw4, ← hs]
        clear b3 H2 H1 hw4 hbk b34 hmm hsp b04 hs
        refine Calls.mono HLk.out ?_
        rintro r w5 ⟨Xb, mb, rv, lv, rfl, h5, b5⟩
        have hpg : ∀ a ∈ F.1, bb ≤ a ∧ a < n ∧ goodX (ws.getD a 0#64) (n - a) = true := fun a ha => found_good ws n (n + 1) bb a (by rw [HG.out.2.2.1]; exact ha)
        have hpl : F.1.length ≤ 8192 := by
          have h2 := found_len ws n (n + 1) bb
          rw [HG.out.2.2.1] at h2
          have := HX.out.2.2.2.2.1
          have := HX.out.2.2.1
          omega
        have hGl : (badF F.2 ++ allE ws F.1 F.1).length ≤ 5000 := by
          have h1 := HG.out.2.1
          rw [HG.out.2.2.2.1, List.length_append] at h1
          omega
        have HO := Lib.hid (lkobj_c w5 (wB := w4) (Bs := w1.heap.size) (s := s) (g := g) (v := v) (b := bb) (t := n) (e := n) ⟨rfl, H4.out.1⟩ b5 h5 hGl HX.out.2.2.2.2.1 (by rw [HX.out.2.2.1]; exact Nat.le_refl _) hpg hpl)
        have HP := Lib.hid (show ∀ a ∈ F.1, a < 8192 ∧ 1 ≤ szX (ws.getD a 0#64) from fun a ha => by
          obtain ⟨_, h2, h3⟩ := hpg a ha
          obtain ⟨_, _, _, h4, _, _⟩ := head_of h3
          have := HX.out.2.2.2.2.1
          have := HX.out.2.2.1
          exact ⟨by omega, by omega⟩)
        clear h5 b5 hpg hpl HLk hGl
        go_wp2_with fail
        refine Calls.mono HO.out ?_
        rintro r w6 ⟨rfl, lv2, h6, _, _, b6⟩
        have H6 := Lib.hid (And.intro h6 b6)
        clear h6 b6 HO
        have HR := Lib.hid (ckrootsG_c w6 R (wB := w4) (Bs := w1.heap.size) (s := s) (g := g) (v := v) (b := bb) (t := n) (e := n) ⟨rfl, H4.out.1⟩ H6.out.2 H6.out.1 (by rw [← HG.out.2.2.2.1]; have := HG.out.2.1; omega) HX.out.2.2.2.2.1 HP.out (by have h1 := HG.out.2.2.2.2.2; have h2 := HX.out.2.2.2.1; have h3 := HX.out.2.2.1; omega))
        go_wp2_with fail
        refine Calls.mono HR.out ?_
        rintro r w7 ⟨rfl, lv3, h7, _, _, b47⟩
        rw [← HG.out.2.2.2.1] at h7
        obtain ⟨c0, c1, c2, c3⟩ := h7.four
        have hXl := h7.blk.lt
        obtain ⟨A7, cc, e0, _⟩ := h7.fr.slice_
        obtain ⟨N, hN⟩ : ∃ N, N = G.length := ⟨_, rfl⟩
        rw [← hN] at e0
        subst e0
        have H7 := Lib.hid (show FR w7 w4.heap.size (.slice A7 N cc) G ∧ Below w.heap.size w w7 ∧ N = G.length ∧ mf.length + G.length ≤ 100000 ∧ FR w7 w.heap.size (.slice oA oN oC) mf from ⟨h7.fr, H4.out.2.1.trans (b47.mono H4.out.2.1.size), hN, by have h1 := HX.out.2.2.2.2.2.2.2; have h2 := HG.out.2.1; omega, H4.out.2.2.below b47⟩)
        clear h7 b47 hN HR H6 HP H4
        go_wp2_with (at_builtin; refine wp_appF rfl (.tmp 59) (.tmp 63) rfl rfl H7.out.2.2.2.2 A7 N cc _ rfl H7.out.2.2.1 H7.out.1.rdf H7.out.2.2.2.1 H7.out.2.1.size ?_; intro v8 w8 ho8 hb8 hg8 hj8; have H8 := Lib.hid (And.intro ho8 hb8); clear ho8 hb8 hg8 hj8)
        rw [HE.out]
        exact ⟨v8, rfl, by rw [HG.out.1]; exact H8.out.1, H7.out.2.1.trans H8.out.2⟩
end Go.Proofs.Ytaminpfgkegibaa
/- check.Right of any words. No conditions. -/
namespace Go.Proofs.Ytaminpfgkegibaa
set_option linter.unusedVariables false
set_option linter.unusedSimpArgs false
open Go.RowKit Go.Maps
set_option maxHeartbeats 4000000
set_option maxRecDepth 100000
theorem rightG_c (w : World) (A : Option Addr) (n c : Nat) (l : List (Nat × ByteArray)) (r : Bool) (hrl : r = decide (l.length = 0)) (HI : Calls Try.prog 8 #[.slice A n c] w (FiP l w)) : Calls Try.prog 12 #[.slice A n c] w (RetP (.bool r) w) := by
  have HI := Lib.hid HI
  obtain ⟨N, hN⟩ : ∃ N, N = l.length := ⟨_, rfl⟩
  rw [← hN] at hrl
  have HN := Lib.hid hN
  have HR := Lib.hid hrl
  clear hN hrl
  go_enter Try.func12, Try.ntmps12
  go_wp2_with fail
  refine Calls.mono HI.out ?_
  rintro r2 w1 ⟨lv, rfl, h1, b1⟩
  obtain ⟨A, cc, e0, _⟩ := h1.slice_
  rw [← HN.out] at e0
  subst e0
  have H1 := Lib.hid b1
  clear h1 b1
  by_cases hz : N = 0
  · have hT := Lib.hid (show r = true from by rw [HR.out]; exact decide_eq_true hz)
    subst hz
    go_wp2_with fail
    go_ret
    exact ⟨by rw [hT.out]; rfl, H1.out⟩
  · have hT := Lib.hid (show r = false from by rw [HR.out]; exact decide_eq_false hz)
    have e1 : ((N : Int) == 0) = false := by simpa using hz
    go_wp2_with fail
    go_ret
    exact ⟨by rw [hT.out]; rfl, H1.out⟩
end Go.Proofs.Ytaminpfgkegibaa
/- The document's Bytes. Conditions: lengths. -/
namespace Go.Proofs.Ytaminpfgkegibaa
set_option linter.unusedVariables false
set_option linter.unusedSimpArgs false
open Go.RowKit
set_option maxHeartbeats 4000000
set_option maxRecDepth 100000
theorem bytesM_snocR (ws : List (BitVec 64)) (a k : Nat) : bytesM ws a (k + 1) = bytesM ws a k ++ [byteAt ws (a + k)] := by
  unfold bytesM
  rw [List.range_succ, List.map_append]
  rfl
theorem rbytesR_c (w : World) (A : Option Addr) (c : Nat) (ws : List (BitVec 64)) (a n : Nat) (hr : Rd u64v w w.heap.size A ws) (ha : a + n ≤ 8 * ws.length) (hl : ws.length ≤ 8192) :
    Calls Try.prog 67 #[.slice A ws.length c, .int .i64 a, .int .i64 n] w (MkP b8 5 (bytesM ws a n) w) := by
  have HB := Lib.hid (fun W (hb : Below w.heap.size w W) (k : Nat) (hk : k < n) => rbyte_c W A c ws ((hr.below hb).more hb.size) (by omega) (a + k) (by omega))
  obtain ⟨N, hN⟩ : ∃ N, N = ws.length := ⟨_, rfl⟩
  rw [← hN] at HB ⊢
  have aI : (a : Int) ≤ 65536 := by omega
  have nI : (n : Int) ≤ 65536 := by omega
  have a0 : (0 : Int) ≤ (a : Int) := by omega
  have HL := Lib.hid (show n ≤ 65536 by omega)
  have HS0 : Hid (Ow b8 5 w w.heap.size (.slice none 0 0) (bytesM ws a 0) ∧ Below w.heap.size w w) := Lib.hid ⟨Ow.nil_ _ _ _ _, Below.refl _ _⟩
  clear hr ha hl hN
  go_enter Try.func67, Try.ntmps67
  go_wp2_with fail
  go_loopw [7, 8] (fun o x W => ∃ k : Nat, x = .int .i64 k ∧ k ≤ n ∧ Hid (Ow b8 5 W w.heap.size o (bytesM ws a k) ∧ Below w.heap.size w W)) (fun _ x _ => n - (Go.RowKit.intOf x).toNat)
  case atStart => exact ⟨0, rfl, Nat.zero_le _, HS0⟩
  case round =>
    obtain ⟨k, rfl, hk, hS⟩ := hrel
    clear HS0
    obtain ⟨e1, e2⟩ := hS.out
    have k0 : (0 : Int) ≤ (k : Int) := by omega
    have hbl : (bytesM ws a k).length = k := by unfold bytesM; simp
    obtain ⟨oA, oc, eo, hoc⟩ := e1.form
    rw [hbl] at eo
    by_cases hlt : k < n
    · have k1 : (k : Int) < (n : Int) := by omega
      have HBk := Lib.hid (HB.out wr e2 k hlt)
      obtain ⟨ak, hak⟩ : ∃ ak, ak = a + k := ⟨_, rfl⟩
      have hak2 : (a : Int) + (k : Int) = (ak : Int) := by omega
      obtain ⟨x, hx⟩ : ∃ x, x = byteAt ws (a + k) := ⟨_, rfl⟩
      rw [← hx, ← hak] at HBk
      have hsn : bytesM ws a (k + 1) = bytesM ws a k ++ [x] := by rw [bytesM_snocR, hx]
      have H0 := Lib.hid (And.intro e1 (And.intro e2 (And.intro hsn (show (bytesM ws a k).length + [x].length ≤ 4294967296 by rw [hbl]; have := HL.out; simp; omega))))
      have akI : (ak : Int) ≤ 131072 := by omega
      subst eo
      clear e1 e2 hS hbl hoc hak hx hsn hk
      go_wp2_with fail
      refine Calls.mono HBk.out ?_
      rintro r w6 ⟨rfl, b6⟩
      have H6 := Lib.hid (show Ow b8 5 w6 w.heap.size (.slice oA k oc) (bytesM ws a k) ∧ Below w.heap.size w w6 from ⟨H0.out.1.below b6, H0.out.2.1.trans (b6.mono H0.out.2.1.size)⟩)
      clear b6 HBk
      go_wp2_with (at_builtin; refine wp_app one8 b8_one rfl (.tmp 14) (.tmp 20) rfl w.heap.size _ (bytesM ws a k) rfl (H6.out.1.alloc _) (some ⟨w6.heap.size, 0, none⟩) 1 1 [x] rfl rfl (w6.heap.size + 1) (rd1_new rfl) H0.out.2.2.2 (by decide) (Nat.le_trans H6.out.2.size (Gw.alloc w6 _).size) ?_; intro v7 w7 ho7 hb7 hg7 hj7; rw [← H0.out.2.2.1] at ho7; have H7 := Lib.hid (show Ow b8 5 w7 w.heap.size v7 (bytesM ws a (k + 1)) ∧ Below w.heap.size w w7 from ⟨ho7, (H6.out.2.trans ((Gw.alloc w6 _).mono H6.out.2.size)).trans hb7⟩); clear ho7 hb7 hg7 hj7)
      go_roundw
      case rel => exact ⟨k + 1, by go_num, by omega, H7⟩
      case measure => simp [Go.RowKit.intOf]; omega
    · have k1 : ¬ (k : Int) < (n : Int) := by omega
      have hkn : k = n := by omega
      subst hkn
      have H0 := Lib.hid (And.intro e1 (And.intro e2 (And.intro eo (And.intro hoc hbl))))
      clear e1 e2 hS hoc hbl
      subst eo
      go_wp2_with fail
      go_ret
      obtain ⟨e1, e2, _, hoc, hbl⟩ := H0.out
      refine ⟨oA, oc, by rw [hbl]; rfl, hoc, by rw [hbl]; exact e1, e2⟩
end Go.Proofs.Ytaminpfgkegibaa
/- The document's name: a Root's. Conditions: lengths. -/
namespace Go.Proofs.Ytaminpfgkegibaa
set_option linter.unusedVariables false
set_option linter.unusedSimpArgs false
open Go.RowKit Go.Maps
set_option maxHeartbeats 4000000
set_option maxRecDepth 100000
theorem cut_get {k : Nm} {j : Nat} (h : j < (cutN k).length) : (cutN k)[j]? = k[j]? := by
  have h5 := congrArg (fun l : Nm => l[j]?) (cut_take k)
  simp only [List.getElem?_take, if_pos h] at h5
  exact h5.symm
theorem cut_lt {k : Nm} {j : Nat} (h : j < (cutN k).length) : k.getD j 0#8 ≠ 0#8 := by
  have h1 : (cutN k)[j] ∈ cutN k := List.getElem_mem h
  have h2 := cut_mem k _ h1
  have h4 : k.getD j 0#8 = (cutN k)[j] := by
    rw [List.getD_eq_getElem?_getD, ← cut_get h, List.getElem?_eq_getElem h]
    rfl
  rw [h4]
  exact h2
theorem cut_end : ∀ (k : Nm), (cutN k).length < k.length → k.getD (cutN k).length 0#8 = 0#8
  | [], h => absurd h (Nat.not_lt_zero _)
  | x :: k, h => by
    by_cases hx : x = 0#8
    · subst hx
      have e : cutN (0#8 :: k) = [] := by unfold cutN; rw [List.takeWhile_cons]; simp
      rw [e]
      rfl
    · have e : cutN (x :: k) = x :: cutN k := by unfold cutN; rw [List.takeWhile_cons]; simp [hx]
      rw [e] at h ⊢
      rw [List.length_cons, List.length_cons] at h
      rw [List.length_cons, List.getD_cons_succ]
      exact cut_end k (by omega)
theorem pad_cut {k : Nm} (hk : nW k) (h : ∀ j, (cutN k).length ≤ j → j < 32 → k.getD j 0#8 = 0#8) : padNm (cutN k) = k := by
  have hl := cut_len k
  have h32 : k.length = 32 := hk
  apply List.ext_getElem?
  intro j
  unfold padNm
  by_cases hj : j < (cutN k).length
  · rw [List.getElem?_append_left hj]
    exact cut_get hj
  · rw [List.getElem?_append_right (by omega), List.getElem?_replicate]
    by_cases h3 : j < 32
    · rw [if_pos (by omega)]
      have h4 := h j (by omega) h3
      rw [List.getD_eq_getElem?_getD, List.getElem?_eq_getElem (by omega)] at h4
      rw [List.getElem?_eq_getElem (by omega)]
      exact congrArg some h4.symm
    · rw [if_neg (by omega), List.getElem?_eq_none (by omega)]
theorem nmOk_no {k : Nm} {j : Nat} (h1 : (cutN k).length ≤ j) (h2 : j < k.length) (h : k.getD j 0#8 ≠ 0#8) : nmOk k = false := by
  refine decide_eq_false fun hh => h ?_
  have e := hh.2
  have h3 : (padNm (cutN k)).getD j 0#8 = 0#8 := by
    unfold padNm
    rw [List.getD_eq_getElem?_getD, List.getElem?_append_right h1, List.getElem?_replicate]
    split <;> rfl
  rw [e] at h3
  exact h3
theorem nmOk_yes {k : Nm} (hk : nW k) (h : padNm (cutN k) = k) : nmOk k = decide (0 < (cutN k).length) := by
  unfold nmOk
  have hl := cut_len k
  have h32 : k.length = 32 := hk
  by_cases h0 : 0 < (cutN k).length
  · rw [decide_eq_true h0]
    exact decide_eq_true ⟨⟨h0, by omega, fun x hx => cut_mem k x hx⟩, h⟩
  · rw [decide_eq_false h0]
    exact decide_eq_false fun hh => h0 hh.1.1
def NameR (k : Nm) (w : World) (r : Ending) (w' : World) : Prop := ∃ s : ByteArray, r = .returned (.tuple #[.string s, .bool (nmOk k)]) ∧ (nmOk k = true → s = strB (cutN k)) ∧ Below w.heap.size w w'
theorem rname_c (w : World) (A : Option Addr) (c : Nat) (ws : List (BitVec 64)) (hr : Rd u64v w w.heap.size A ws) (h8 : ws.length ≤ 8192) (a : Nat) (ha : a + 4 ≤ ws.length) :
    Calls Try.prog 31 #[.slice A ws.length c, .int .i64 (a : Int)] w (NameR (bytesM ws (8 * a) 32) w) := by
  obtain ⟨k, hk⟩ : ∃ k, k = bytesM ws (8 * a) 32 := ⟨_, rfl⟩
  have hkw : nW k := by rw [hk]; unfold nW bytesM; simp
  have HBy := Lib.hid (rbytesR_c w A c ws (8 * a) 32 hr (by omega) h8)
  rw [← hk] at HBy ⊢
  obtain ⟨E, hE⟩ : ∃ E, E = NameR k w := ⟨_, rfl⟩
  rw [← hE]
  have HE := Lib.hid hE
  obtain ⟨n, hn⟩ : ∃ n, n = ws.length := ⟨_, rfl⟩
  obtain ⟨a8, ha8⟩ : ∃ a8, a8 = 8 * a := ⟨_, rfl⟩
  have q1 : (8 : Int) * (a : Int) = (a8 : Int) := by omega
  have q2 : (a8 : Int) ≤ 65536 := by omega
  have q3 : (0 : Int) ≤ (a : Int) := by omega
  have q4 : (a : Int) ≤ 8192 := by omega
  obtain ⟨C, hC⟩ : ∃ C, C = (cutN k).length := ⟨_, rfl⟩
  have hC32 : C ≤ 32 := by rw [hC]; have := cut_len k; have h32 : k.length = 32 := hkw; omega
  have hkl : k.length = 32 := hkw
  have HK := Lib.hid (And.intro hkw (And.intro hC (And.intro hC32 hkl)))
  rw [← ha8, ← hn] at HBy
  rw [← hn]
  clear hr h8 ha hk hkw hE hn ha8 hC hC32 hkl
  go_enter Try.func31, Try.ntmps31
  go_wp2_with fail
  refine Calls.mono HBy.out ?_
  rintro r w1 ⟨bA, bc, rfl, hbc, hob, b1⟩
  have hrd := hob.rd
  rw [HK.out.2.2.2] at hbc ⊢
  obtain ⟨ad, rfl⟩ : ∃ ad, bA = some ad := by
    obtain ⟨ad, had, _, _⟩ := hrd 0 (by rw [HK.out.2.2.2]; decide)
    exact ⟨ad, had⟩
  have H1 := Lib.hid (And.intro hrd b1)
  have hbcI : (32 : Int) ≤ (bc : Int) := by omega
  clear hob b1 hrd HBy hbc
  go_wp2_with fail
  go_loopw [7] (fun x W => ∃ i : Nat, x = .int .i64 i ∧ i ≤ C ∧ W = w1) (fun x _ => 32 - (Go.RowKit.intOf x).toNat)
  case atStart => exact ⟨0, rfl, Nat.zero_le _, rfl⟩
  case round =>
    obtain ⟨i, rfl, hi, rfl⟩ := hrel
    have i0 : (0 : Int) ≤ (i : Int) := by omega
    by_cases hlt : i < C
    · have i1 : (i : Int) < 32 := by have := HK.out.2.2.1; omega
      have hne := cut_lt (k := k) (j := i) (by rw [← HK.out.2.1]; exact hlt)
      have hik : i < k.length := by rw [HK.out.2.2.2]; have := HK.out.2.2.1; omega
      obtain ⟨ad', had', hadl, hc⟩ := H1.out.1 i hik
      injection had' with had'
      subst had'
      obtain ⟨y, hy⟩ : ∃ y, y = k[i] := ⟨_, rfl⟩
      have hye : k.getD i 0#8 = y := by rw [hy, List.getD_eq_getElem?_getD, List.getElem?_eq_getElem hik]; rfl
      rw [hye] at hne
      rw [← hy] at hc
      unfold b8 at hc
      have hyn : (U8 y != 0) = true := by
        rw [bne_iff_ne]
        intro h
        exact hne (U8_inj (show U8 y = U8 0#8 from h))
      obtain ⟨yv, hyv⟩ : ∃ yv, yv = U8 y := ⟨_, rfl⟩
      rw [← hyv] at hc hyn
      clear hy hye hne hyv hadl hik
      go_wp2_with fail
      go_roundw
      case rel => exact ⟨i + 1, by go_num, by omega, by first | rfl | trivial⟩
      case measure => simp [Go.RowKit.intOf]; omega
    · have hiC : i = C := by omega
      subst hiC
      have hCl := HK.out.2.2.1
      by_cases h32 : i < 32
      · have i1 : (i : Int) < 32 := by omega
        have hik : i < k.length := by rw [HK.out.2.2.2]; exact h32
        have hz := cut_end k (by rw [← HK.out.2.1]; exact hik)
        rw [← HK.out.2.1] at hz
        obtain ⟨ad', had', hadl, hc⟩ := H1.out.1 i hik
        injection had' with had'
        subst had'
        have hye : k[i] = 0#8 := by rw [← hz, List.getD_eq_getElem?_getD, List.getElem?_eq_getElem hik]; rfl
        rw [hye] at hc
        replace hc : wr.cell? (ad.add i) = some (.int .u8 0) := hc
        clear hz hye hadl hik hCl hlt hi
        go_wp2_with fail
        have HS2 : Hid (∀ j, i ≤ j → j < i → k.getD j 0#8 = 0#8) := Lib.hid (fun j h1 h2 => by omega)
        go_loopw [8] (fun x W => ∃ j8 : Nat, x = .int .i64 j8 ∧ i ≤ j8 ∧ j8 ≤ 32 ∧ W = wr ∧ Hid (∀ j, i ≤ j → j < j8 → k.getD j 0#8 = 0#8)) (fun x _ => 32 - (Go.RowKit.intOf x).toNat)
        case atStart => exact ⟨i, rfl, Nat.le_refl _, HK.out.2.2.1, rfl, HS2⟩
        case round =>
          obtain ⟨j8, rfl, hi1, hi2, rfl, hS⟩ := hrel
          clear HS2
          have j0 : (0 : Int) ≤ (j8 : Int) := by omega
          by_cases hlt2 : j8 < 32
          · have i1 : (j8 : Int) < 32 := by omega
            have hik : j8 < k.length := by rw [HK.out.2.2.2]; exact hlt2
            obtain ⟨ad', had', hadl, hc⟩ := H1.out.1 j8 hik
            injection had' with had'
            subst had'
            obtain ⟨y, hy⟩ : ∃ y, y = k[j8] := ⟨_, rfl⟩
            have hye : k.getD j8 0#8 = y := by rw [hy, List.getD_eq_getElem?_getD, List.getElem?_eq_getElem hik]; rfl
            rw [← hy] at hc
            unfold b8 at hc
            by_cases hy0 : y = 0#8
            · have HN : Hid (∀ j, i ≤ j → j < j8 + 1 → k.getD j 0#8 = 0#8) := Lib.hid (fun j h1 h2 => by
                by_cases e : j = j8
                · rw [e, hye, hy0]
                · exact hS.out j h1 (by omega))
              subst hy0
              replace hc : wr.cell? (ad.add j8) = some (.int .u8 0) := hc
              clear hy hye hik hadl hS
              go_wp2_with fail
              go_roundw
              case rel => exact ⟨j8 + 1, by go_num, by omega, by omega, (by first | rfl | trivial), HN⟩
              case measure => simp [Go.RowKit.intOf]; omega
            · have hyn : (U8 y != 0) = true := by
                rw [bne_iff_ne]
                intro h
                exact hy0 (U8_inj (show U8 y = U8 0#8 from h))
              have HNo := Lib.hid (nmOk_no (k := k) (j := j8) (by rw [← HK.out.2.1]; exact hi1) hik (by rw [hye]; exact hy0))
              obtain ⟨yv, hyv⟩ : ∃ yv, yv = U8 y := ⟨_, rfl⟩
              rw [← hyv] at hc hyn
              clear hy hye hik hadl hS hy0 hyv
              go_wp2_with fail
              rw [HE.out]
              exact ⟨⟨#[]⟩, (by rw [HNo.out]; rfl), (fun h => by rw [HNo.out] at h; cases h), H1.out.2⟩
          · have i1 : ¬ (j8 : Int) < 32 := by omega
            have hpad := pad_cut HK.out.1 (fun j h1 h2 => hS.out j (by rw [HK.out.2.1]; exact h1) (by omega))
            have hyes := nmOk_yes HK.out.1 hpad
            rw [← HK.out.2.1] at hyes
            have hrc : Rd b8 wr wr.heap.size (some ad) (cutN k) := by
              have h := H1.out.1.take (cutN k).length
              rwa [cut_take] at h
            have kc := str_conv (cutN k) (some ad) bc _ wr hrc
            rw [← HK.out.2.1] at kc
            obtain ⟨st, hst⟩ : ∃ st, st = strB (cutN k) := ⟨_, rfl⟩
            rw [← hst] at kc
            have CI : (i : Int) ≤ 32 := by have := HK.out.2.2.1; omega
            have C0 : (0 : Int) ≤ (i : Int) := by omega
            have Cb : (i : Int) ≤ (bc : Int) := by omega
            have HY := Lib.hid (And.intro hyes hst)
            clear hyes hst hpad hrc hS
            go_wp2_with fail
            rw [HE.out]
            exact ⟨st, (by rw [HY.out.1]), fun _ => HY.out.2, H1.out.2⟩
      · have i1 : ¬ (i : Int) < 32 := by omega
        clear hCl hlt hi
        go_wp2_with fail
        have HS2 : Hid (∀ j, i ≤ j → j < i → k.getD j 0#8 = 0#8) := Lib.hid (fun j h1 h2 => by omega)
        go_loopw [8] (fun x W => ∃ j8 : Nat, x = .int .i64 j8 ∧ i ≤ j8 ∧ j8 ≤ 32 ∧ W = wr ∧ Hid (∀ j, i ≤ j → j < j8 → k.getD j 0#8 = 0#8)) (fun x _ => 32 - (Go.RowKit.intOf x).toNat)
        case atStart => exact ⟨i, rfl, Nat.le_refl _, HK.out.2.2.1, rfl, HS2⟩
        case round =>
          obtain ⟨j8, rfl, hi1, hi2, rfl, hS⟩ := hrel
          clear HS2
          have j0 : (0 : Int) ≤ (j8 : Int) := by omega
          by_cases hlt2 : j8 < 32
          · have i1 : (j8 : Int) < 32 := by omega
            have hik : j8 < k.length := by rw [HK.out.2.2.2]; exact hlt2
            obtain ⟨ad', had', hadl, hc⟩ := H1.out.1 j8 hik
            injection had' with had'
            subst had'
            obtain ⟨y, hy⟩ : ∃ y, y = k[j8] := ⟨_, rfl⟩
            have hye : k.getD j8 0#8 = y := by rw [hy, List.getD_eq_getElem?_getD, List.getElem?_eq_getElem hik]; rfl
            rw [← hy] at hc
            unfold b8 at hc
            by_cases hy0 : y = 0#8
            · have HN : Hid (∀ j, i ≤ j → j < j8 + 1 → k.getD j 0#8 = 0#8) := Lib.hid (fun j h1 h2 => by
                by_cases e : j = j8
                · rw [e, hye, hy0]
                · exact hS.out j h1 (by omega))
              subst hy0
              replace hc : wr.cell? (ad.add j8) = some (.int .u8 0) := hc
              clear hy hye hik hadl hS
              go_wp2_with fail
              go_roundw
              case rel => exact ⟨j8 + 1, by go_num, by omega, by omega, (by first | rfl | trivial), HN⟩
              case measure => simp [Go.RowKit.intOf]; omega
            · have hyn : (U8 y != 0) = true := by
                rw [bne_iff_ne]
                intro h
                exact hy0 (U8_inj (show U8 y = U8 0#8 from h))
              have HNo := Lib.hid (nmOk_no (k := k) (j := j8) (by rw [← HK.out.2.1]; exact hi1) hik (by rw [hye]; exact hy0))
              obtain ⟨yv, hyv⟩ : ∃ yv, yv = U8 y := ⟨_, rfl⟩
              rw [← hyv] at hc hyn
              clear hy hye hik hadl hS hy0 hyv
              go_wp2_with fail
              rw [HE.out]
              exact ⟨⟨#[]⟩, (by rw [HNo.out]; rfl), (fun h => by rw [HNo.out] at h; cases h), H1.out.2⟩
          · have i1 : ¬ (j8 : Int) < 32 := by omega
            have hpad := pad_cut HK.out.1 (fun j h1 h2 => hS.out j (by rw [HK.out.2.1]; exact h1) (by omega))
            have hyes := nmOk_yes HK.out.1 hpad
            rw [← HK.out.2.1] at hyes
            have hrc : Rd b8 wr wr.heap.size (some ad) (cutN k) := by
              have h := H1.out.1.take (cutN k).length
              rwa [cut_take] at h
            have kc := str_conv (cutN k) (some ad) bc _ wr hrc
            rw [← HK.out.2.1] at kc
            obtain ⟨st, hst⟩ : ∃ st, st = strB (cutN k) := ⟨_, rfl⟩
            rw [← hst] at kc
            have CI : (i : Int) ≤ 32 := by have := HK.out.2.2.1; omega
            have C0 : (0 : Int) ≤ (i : Int) := by omega
            have Cb : (i : Int) ≤ (bc : Int) := by omega
            have HY := Lib.hid (And.intro hyes hst)
            clear hyes hst hpad hrc hS
            go_wp2_with fail
            rw [HE.out]
            exact ⟨st, (by rw [HY.out.1]), fun _ => HY.out.2, H1.out.2⟩
end Go.Proofs.Ytaminpfgkegibaa
/- The document's Found, of any words. Conditions: lengths. -/
namespace Go.Proofs.Ytaminpfgkegibaa
set_option linter.unusedVariables false
set_option linter.unusedSimpArgs false
open Go.RowKit Go.Maps
set_option maxHeartbeats 4000000
set_option maxRecDepth 100000
def badI : Option Nat → Int
  | none => -1
  | some x => (x : Int)
theorem rfoundG_c (w : World) (A : Option Addr) (c : Nat) (ws : List (BitVec 64)) (b t : Nat) (F : List Nat × Option Nat) (hr : Rd u64v w w.heap.size A ws) (hbt : b ≤ t) (htw : t ≤ ws.length) (hl : ws.length ≤ 8192) (hF : foundN ws t (t + 1) b = F) :
    Calls Try.prog 30 #[.slice A ws.length c, .int .i64 (b : Int), .int .i64 (t : Int)] w (fun r w' => ∃ A' c', r = .returned (.tuple #[.slice A' F.1.length c', .int .i64 (badI F.2)]) ∧ Ow iN 3 w' w.heap.size (.slice A' F.1.length c') F.1 ∧ Below w.heap.size w w') := by
  obtain ⟨N, hN⟩ : ∃ N, N = ws.length := ⟨_, rfl⟩
  have HX := Lib.hid (And.intro hr (And.intro hbt (And.intro htw (And.intro hl (And.intro hF hN)))))
  have HS0 : Hid (∃ pd n, Ow iN 3 w w.heap.size (.slice none 0 0) pd ∧ pd ++ (foundN ws t n b).1 = F.1 ∧ (foundN ws t n b).2 = F.2 ∧ t + 1 ≤ b + n ∧ Below w.heap.size w w) := Lib.hid ⟨[], t + 1, Ow.nil_ _ _ _ _, by rw [hF]; rfl, by rw [hF], by omega, Below.refl _ _⟩
  have tI : (t : Int) ≤ 8192 := by omega
  have bI : (b : Int) ≤ 8192 := by omega
  rw [← hN]
  clear hr hbt htw hl hF hN
  go_enter Try.func30, Try.ntmps30
  go_wp2_with fail
  go_loopw [8, 9] (fun o x W => ∃ a : Nat, x = .int .i64 a ∧ b ≤ a ∧ a ≤ t ∧ Hid (∃ pd n, Ow iN 3 W w.heap.size o pd ∧ pd ++ (foundN ws t n a).1 = F.1 ∧ (foundN ws t n a).2 = F.2 ∧ t + 1 ≤ a + n ∧ Below w.heap.size w W)) (fun _ x _ => t - (Go.RowKit.intOf x).toNat)
  case atStart => exact ⟨b, rfl, Nat.le_refl _, HX.out.2.1, HS0⟩
  case round =>
    obtain ⟨a, rfl, hba, hat, hS⟩ := hrel
    clear HS0
    obtain ⟨pd, n, e1, e3, e4, e5, e6⟩ := hS.out
    have p0 : (0 : Int) ≤ (a : Int) := by omega
    by_cases hlt : a < t
    · have p1 : (a : Int) < (t : Int) := by omega
      obtain ⟨x, hx⟩ : ∃ x, x = ws.getD a 0#64 := ⟨_, rfl⟩
      obtain ⟨m, rfl⟩ : ∃ m, n = m + 1 := ⟨n - 1, by omega⟩
      have hal : a < ws.length := by have := HX.out.2.2.1; omega
      unfold foundN at e3 e4
      rw [if_pos hlt, ← hx] at e3 e4
      by_cases hg : goodX x (t - a) = true
      · rw [if_pos hg] at e3 e4
        obtain ⟨hv, hP64, hB1024, hsx, hsz, hroom⟩ := head_of hg
        have HUn := Lib.hid (fun W => runpack_false x (goodX_out hg).2.1 W)
        rw [hv] at HUn
        obtain ⟨P, hP⟩ : ∃ P, P = P0 x := ⟨_, rfl⟩
        obtain ⟨nb, hn⟩ : ∃ P, P = B0 x := ⟨_, rfl⟩
        obtain ⟨sz, hszz⟩ : ∃ P, P = szX x := ⟨_, rfl⟩
        rw [← hP, ← hn] at HUn hsz
        rw [← hszz] at hsz hroom e3 e4
        have hs1 : 1 ≤ sz := by rw [hszz, hsx]; omega
        have HSz := Lib.hid (fun W => rsize_c (P : Int) (nb : Int) false 0 W)
        rw [hsz] at HSz
        obtain ⟨ad, rfl, hadl, hcw⟩ := (HX.out.1.below e6) a hal
        have hcx : wr.cell? (ad.add a) = some (.int .u64 (U64 x)) := by
          rw [hcw, hx, List.getD_eq_getElem?_getD, List.getElem?_eq_getElem hal]; rfl
        have q6 : (a : Int) < (N : Int) := by have := HX.out.2.2.2.2.2; omega
        have hpl : pd.length ≤ 8192 := by
          have h1 := congrArg List.length e3
          have h2 := found_len ws t (t + 1) b
          rw [HX.out.2.2.2.2.1] at h2
          have := HX.out.2.2.2.1
          have := HX.out.2.2.1
          simp at h1 h2
          omega
        have HE := Lib.hid (And.intro e1 (And.intro e3 (And.intro e4 (And.intro e5 (And.intro e6 hpl)))))
        have z1 : (sz : Int) ≤ (t : Int) - (a : Int) := by omega
        have z2 : (1 : Int) ≤ (sz : Int) := by omega
        clear e1 e3 e4 e5 e6 hS hx hg hv hsx hsz hP hn hszz hpl hroom hcw hadl
        go_wp2_with fail
        refine Calls.mono (HUn.out wr) ?_
        rintro r w3 ⟨rfl, b3⟩
        have H3 := Lib.hid b3
        clear b3 hcx
        go_wp2_with fail
        obtain ⟨Hb, hHb⟩ : ∃ H, H = w3.heap.size := ⟨_, rfl⟩
        obtain ⟨w4, hw4⟩ : ∃ w3', w3' = w3.alloc (.cells #[.int .i64 (P : Int), .int .i64 (nb : Int), .bool false, .int .i64 0] 88) := ⟨_, rfl⟩
        have hbk : Bk w4 Hb 88 #[.int .i64 (P : Int), .int .i64 (nb : Int), .bool false, .int .i64 0] := by rw [hw4, hHb]; exact Bk.new w3 _ _
        have b34 : Below w3.heap.size w3 w4 := by rw [hw4]; exact Gw.alloc w3 _
        rw [← hw4, ← hHb]
        obtain ⟨g0, g1, g2, g3⟩ := hbk.four
        have hHl := hbk.lt
        have HBk := Lib.hid (And.intro hbk (And.intro (H3.out.trans (b34.mono H3.out.size)) (show wr.heap.size ≤ Hb by have := H3.out.size; omega)))
        clear hw4 hHb b34 hbk
        go_wp2_with fail
        refine Calls.mono (HSz.out w4) ?_
        rintro r w5 ⟨rfl, hG⟩
        have b5 := HBk.out.2.1.trans (hG.mono HBk.out.2.1.size)
        have hbk5 := HBk.out.1.below hG HBk.out.1.lt
        have H5 := Lib.hid (And.intro b5 hbk5)
        have HO := Lib.hid (HE.out.1.below b5)
        have HLn := Lib.hid (show pd.length + [a].length ≤ 4294967296 by have := HE.out.2.2.2.2.2; simp; omega)
        have HBs := Lib.hid (show w.heap.size ≤ w5.heap.size by have := HE.out.2.2.2.2.1.size; have := b5.size; omega)
        clear hG b5 g0 g1 g2 g3 hHl hbk5
        go_wp2_with (at_builtin; refine wp_app oneI iN_one rfl (.tmp 40) (.tmp 42) rfl w.heap.size _ pd rfl (HO.out.alloc _) (some ⟨w5.heap.size, 0, none⟩) 1 1 [a] rfl rfl (w5.heap.size + 1) (rdN_new w5 a) HLn.out (by decide) (Nat.le_trans HBs.out (Gw.alloc w5 _).size) ?_; intro v6 w6 ho6 hb6 hg6 hv6; have hk6 := (H5.out.2.alloc (.cells #[.int .i64 (a : Int)] 3)).grownK hg6 (fun e => by have := (HE.out.1.lt Hb e.symm).2; have := HBk.out.2.2; omega); obtain ⟨g0, g1, g2, g3⟩ := hk6.four; have hHl := hk6.lt; have HK := Lib.hid (And.intro ho6 (And.intro hg6 (show w.heap.size ≤ w.heap.size from Nat.le_refl _))); clear ho6 hb6 hg6 hv6 hk6)
        refine Calls.mono (HSz.out w6) ?_
        rintro r w10 ⟨rfl, b10⟩
        have HN : Hid (∃ pd n, Ow iN 3 w10 w.heap.size v6 pd ∧ pd ++ (foundN ws t n (a + sz)).1 = F.1 ∧ (foundN ws t n (a + sz)).2 = F.2 ∧ t + 1 ≤ a + sz + n ∧ Below w.heap.size w w10) := by
          obtain ⟨ho6, hg6, _⟩ := HK.out
          obtain ⟨e1, e3, e4, e5, e6, hpl⟩ := HE.out
          have b5 := H5.out.1
          have h5 := e6.trans (b5.mono e6.size)
          have h56 : Below w.heap.size w5 w6 := ((Gw.alloc w5 _).mono h5.size).trans ((Kept.grown hg6).below (by have := (Gw.alloc w5 (.cells #[.int .i64 (a : Int)] 3)).size; have := h5.size; omega) (fun k hk => (e1.lt k hk).1))
          have h6 := h5.trans h56
          exact Lib.hid ⟨pd ++ [a], m, ho6.below b10, by rw [List.append_assoc]; exact e3, e4, by omega, h6.trans (b10.mono h6.size)⟩
        have zt : a + sz ≤ t := by omega
        have zb : b ≤ a + sz := by omega
        obtain ⟨nx, hnx⟩ : ∃ nx, nx = a + sz := ⟨_, rfl⟩
        rw [← hnx] at HN zt zb
        have z4 : (a : Int) + (sz : Int) = (nx : Int) := by omega
        have z5 : (nx : Int) ≤ 8192 := by omega
        have z6 : a < nx := by omega
        clear b10 g0 g1 g2 g3 hHl hnx
        go_wp2_with fail
        go_roundw
        case rel => first | exact ⟨nx, by go_num, zb, zt, HN⟩ | ((repeat apply Exists.intro); refine ⟨?_, rfl⟩; exact ⟨nx, by go_num, zb, zt, HN⟩)
        case measure => simp [Go.RowKit.intOf]; omega
      · rw [if_neg hg] at e3 e4
        have hpd : pd = F.1 := by rw [← e3]; exact (List.append_nil _).symm
        obtain ⟨oA, oc, eo, _⟩ := e1.form
        rw [hpd] at eo
        have HE := Lib.hid (And.intro e1 (And.intro hpd (And.intro (show F.2 = some a from e4.symm) (And.intro eo e6))))
        have HUn := Lib.hid (fun W => runpack_c x W)
        obtain ⟨ad, rfl, hadl, hcw⟩ := (HX.out.1.below e6) a hal
        have hcx : wr.cell? (ad.add a) = some (.int .u64 (U64 x)) := by
          rw [hcw, hx, List.getD_eq_getElem?_getD, List.getElem?_eq_getElem hal]; rfl
        have q6 : (a : Int) < (N : Int) := by have := HX.out.2.2.2.2.2; omega
        by_cases hok : okU x = false
        · rw [unV_no hok] at HUn
          clear e1 e3 e4 e5 e6 hS hx hg hpd eo hcw hadl
          go_wp2_with fail
          refine Calls.mono (HUn.out wr) ?_
          rintro r w3 ⟨rfl, b3⟩
          have H3 := Lib.hid b3
          clear b3 hcx
          go_wp2_with fail
          have BB := Lib.hid (H3.out.trans ((Gw.alloc w3 (.cells #[.int .i64 0, .int .i64 0, .bool false, .int .i64 0] 88)).mono H3.out.size))
          go_ret2
          obtain ⟨e1, hp, hb, eo, e6⟩ := HE.out
          rw [hp] at e1
          refine ⟨oA, oc, by rw [eo, hb]; rfl, (eo ▸ e1).below BB.out, e6.trans (BB.out.mono e6.size)⟩
        · have hok : okU x = true := by simpa using hok
          by_cases hmv : fM x = true
          · rw [unV_yes hok, hmv] at HUn
            obtain ⟨xP, hxP⟩ : ∃ z, z = fP x := ⟨_, rfl⟩
            obtain ⟨xB, hxB⟩ : ∃ z, z = fB x := ⟨_, rfl⟩
            obtain ⟨xT, hxT⟩ : ∃ z, z = fT x := ⟨_, rfl⟩
            rw [← hxP, ← hxB, ← hxT] at HUn
            clear hxP hxB hxT hmv
            clear e1 e3 e4 e5 e6 hS hx hg hpd eo hcw hadl
            go_wp2_with fail
            refine Calls.mono (HUn.out wr) ?_
            rintro r w3 ⟨rfl, b3⟩
            have H3 := Lib.hid b3
            clear b3 hcx
            go_wp2_with fail
            obtain ⟨Hb, hHb⟩ : ∃ H, H = w3.heap.size := ⟨_, rfl⟩
            obtain ⟨w4, hw4⟩ : ∃ w3', w3' = w3.alloc (.cells #[.int .i64 xP, .int .i64 xB, .bool true, .int .i64 xT] 88) := ⟨_, rfl⟩
            have hbk : Bk w4 Hb 88 #[.int .i64 xP, .int .i64 xB, .bool true, .int .i64 xT] := by rw [hw4, hHb]; exact Bk.new w3 _ _
            have b34 : Below w3.heap.size w3 w4 := by rw [hw4]; exact Gw.alloc w3 _
            rw [← hw4, ← hHb]
            have H4 := Lib.hid (H3.out.trans (b34.mono H3.out.size))
            obtain ⟨g0, g1, g2, g3⟩ := hbk.four
            have hHl := hbk.lt
            clear hw4 hHb b34 hbk
            have BB := H4
            go_wp2_with fail
            go_ret2
            obtain ⟨e1, hp, hb, eo, e6⟩ := HE.out
            rw [hp] at e1
            refine ⟨oA, oc, by rw [eo, hb]; rfl, (eo ▸ e1).below BB.out, e6.trans (BB.out.mono e6.size)⟩
          · have hmv : fM x = false := by simpa using hmv
            obtain ⟨P, nb, n1, n2, n3, n4, n5, n6, n7⟩ := head_nums hok hmv
            rw [unV_yes hok, hmv, n1, n2, n3] at HUn
            obtain ⟨sz, hszz⟩ : ∃ z, z = szX x := ⟨_, rfl⟩
            rw [← hszz] at n7 n6
            have hbig : t - a < sz := by
              rw [hszz]
              have h1 : ¬ szX x ≤ t - a := fun h => hg (by unfold goodX; rw [hok, hmv, decide_eq_true h]; rfl)
              omega
            have z1 : (t : Int) - (a : Int) < (sz : Int) := by omega
            have z2 : (sz : Int) ≤ 1000 := by omega
            have HSz := Lib.hid (fun W => rsize_c (P : Int) (nb : Int) false 0 W)
            rw [n7] at HSz
            clear n1 n2 n3 n4 n5 n6 n7 hszz hbig hmv
            clear e1 e3 e4 e5 e6 hS hx hg hpd eo hcw hadl
            go_wp2_with fail
            refine Calls.mono (HUn.out wr) ?_
            rintro r w3 ⟨rfl, b3⟩
            have H3 := Lib.hid b3
            clear b3 hcx
            go_wp2_with fail
            obtain ⟨Hb, hHb⟩ : ∃ H, H = w3.heap.size := ⟨_, rfl⟩
            obtain ⟨w4, hw4⟩ : ∃ w3', w3' = w3.alloc (.cells #[.int .i64 (P : Int), .int .i64 (nb : Int), .bool false, .int .i64 0] 88) := ⟨_, rfl⟩
            have hbk : Bk w4 Hb 88 #[.int .i64 (P : Int), .int .i64 (nb : Int), .bool false, .int .i64 0] := by rw [hw4, hHb]; exact Bk.new w3 _ _
            have b34 : Below w3.heap.size w3 w4 := by rw [hw4]; exact Gw.alloc w3 _
            rw [← hw4, ← hHb]
            have H4 := Lib.hid (H3.out.trans (b34.mono H3.out.size))
            obtain ⟨g0, g1, g2, g3⟩ := hbk.four
            have hHl := hbk.lt
            clear hw4 hHb b34 hbk
            go_wp2_with fail
            refine Calls.mono (HSz.out w4) ?_
            rintro r w5 ⟨rfl, b5⟩
            have BB := Lib.hid (H4.out.trans (b5.mono H4.out.size))
            clear b5 g0 g1 g2 g3 hHl
            go_wp2_with fail
            go_ret2
            obtain ⟨e1, hp, hb, eo, e6⟩ := HE.out
            rw [hp] at e1
            refine ⟨oA, oc, by rw [eo, hb]; rfl, (eo ▸ e1).below BB.out, e6.trans (BB.out.mono e6.size)⟩
    · have p1 : ¬ (a : Int) < (t : Int) := by omega
      have hF2 : foundN ws t n a = ([], none) := by
        cases n with
        | zero => rfl
        | succ m => unfold foundN; rw [if_neg hlt]
      rw [hF2] at e3 e4
      have hpd : pd = F.1 := by rw [← e3]; exact (List.append_nil _).symm
      obtain ⟨oA, oc, eo, _⟩ := e1.form
      rw [hpd] at eo
      have HE := Lib.hid (And.intro e1 (And.intro hpd (And.intro (show F.2 = none from e4.symm) (And.intro eo e6))))
      clear e1 e3 e4 e5 e6 hS hF2 hpd eo
      go_wp2_with fail
      go_ret2
      obtain ⟨e1, hp, hb, eo, e6⟩ := HE.out
      rw [hp] at e1
      refine ⟨oA, oc, by rw [eo, hb]; rfl, eo ▸ e1, e6⟩
end Go.Proofs.Ytaminpfgkegibaa
/- The document's Space, of any words. Conditions: lengths. -/
namespace Go.Proofs.Ytaminpfgkegibaa
set_option linter.unusedVariables false
set_option linter.unusedSimpArgs false
open Go.RowKit Go.Maps
set_option maxHeartbeats 8000000
set_option maxRecDepth 100000
/-- What stands besides the findings. -/
structure KBs (w1 : World) (R : Nat) (v : Value) (lo hi : Nat) (W : World) : Prop where
  b : Below w1.heap.size w1 W
  k : Bk W R 41 #[v, .int .i64 (lo : Int), .int .i64 (hi : Int), .int .i64 (hi : Int)]
theorem KBs.go {w1 W W' : World} {R : Nat} {v : Value} {b t : Nat} (h : KBs w1 R v b t W) (hb : Below W.heap.size W W') : KBs w1 R v b t W' := ⟨h.b.trans (hb.mono h.b.size), h.k.below hb h.k.lt⟩
theorem KBs.app {w1 W W' : World} {R : Nat} {v : Value} {b t : Nat} (h : KBs w1 R v b t W) {o : Value} (hg : W.grownBy W' o.ownBlock) (hn : ∀ k, o.ownBlock = some k → w1.heap.size ≤ k ∧ k ≠ R) : KBs w1 R v b t W' :=
  ⟨h.b.trans ((Kept.grown hg).below h.b.size (fun k hk => (hn k hk).1)), (Kept.grown hg).bk h.k (fun hh => (hn R hh).2 rfl)⟩
theorem rfr_slice {w : World} {B : Nat} {v : Value} {l : List (Nat × ByteArray)} (h : rFR w B v l) : ∃ A n c, v = .slice A n c := by
  obtain ⟨A, c, e, _⟩ := h.slice_
  exact ⟨A, _, c, e⟩
theorem rspaceG_c (w : World) (A : Option Addr) (c : Nat) (ws : List (BitVec 64)) (b t : Nat) (l : List Nat) (bd : Option Nat) (hr : Rd u64v w w.heap.size A ws) (hbt : b ≤ t) (htw : t ≤ ws.length) (hl : ws.length ≤ 8192) (hF : foundN ws t (t + 1) b = (l, bd)) (hlen : (badF bd ++ allE ws l l).length ≤ 5000) :
    Calls Try.prog 15 #[.slice A ws.length c, .int .i64 (b : Int), .int .i64 (t : Int)] w (fun r w' => ∃ lv, r = .returned lv ∧ rFR w' w.heap.size lv (badF bd ++ allE ws l l) ∧ Below w.heap.size w w') := by
  have HFd := Lib.hid (rfoundG_c w A c ws b t (l, bd) hr hbt htw hl hF)
  simp only at HFd
  have hpg : ∀ a ∈ l, b ≤ a ∧ a < t ∧ goodX (ws.getD a 0#64) (t - a) = true := fun a ha => found_good ws t (t + 1) b a (by rw [hF]; exact ha)
  have hpl : l.length ≤ 8192 := by
    have h2 := found_len ws t (t + 1) b
    rw [hF] at h2
    have h3 : l.length ≤ t - b := h2
    omega
  obtain ⟨N, hN⟩ : ∃ N, N = ws.length := ⟨_, rfl⟩
  obtain ⟨M, hM⟩ : ∃ N, N = l.length := ⟨_, rfl⟩
  have HX := Lib.hid (And.intro hr (And.intro htw (And.intro hl (And.intro hpg (And.intro hN (And.intro hM hpl))))))
  obtain ⟨G, hG⟩ : ∃ G, G = badF bd ++ allE ws l l := ⟨_, rfl⟩
  have HG := Lib.hid (And.intro hG (show G.length ≤ 5000 by rw [hG]; exact hlen))
  have tI : (t : Int) ≤ 8192 := by omega
  have bI : (b : Int) ≤ 8192 := by omega
  have MI : (M : Int) ≤ 8192 := by omega
  rw [← hN] at HFd ⊢
  rw [← hM] at HFd
  rw [← hG]
  clear hr hbt htw hl hF hN hpg hpl hM hG hlen
  go_enter Try.func15, Try.ntmps15
  go_wp2_with fail
  refine Calls.mono HFd.out ?_
  rintro r w1 ⟨pA, pc, rfl, hp1, b1⟩
  have H1 := Lib.hid (And.intro hp1 b1)
  clear hp1 b1
  cases bd with
  | none =>
    have hbi : badI none = -1 := rfl
    rw [hbi]
    have HOo := Lib.hid (show rFR w1 w1.heap.size (.slice none 0 0) (badF none) ∧ Below w1.heap.size w1 w1 ∧ True from ⟨rFR.nil _ _, Below.refl _ _, trivial⟩)
    go_wp2_with fail
    obtain ⟨R, hR⟩ : ∃ R, R = w1.heap.size := ⟨_, rfl⟩
    obtain ⟨w3, hw3⟩ : ∃ w3, w3 = w1.alloc (.cells #[.slice A N c, .int .i64 (b : Int), .int .i64 (t : Int), .int .i64 (t : Int)] 41) := ⟨_, rfl⟩
    have hbk : Bk w3 R 41 #[.slice A N c, .int .i64 (b : Int), .int .i64 (t : Int), .int .i64 (t : Int)] := by rw [hw3, hR]; exact Bk.new w1 _ _
    have b13 : Below w1.heap.size w1 w3 := by rw [hw3]; exact Gw.alloc w1 _
    rw [← hw3, ← hR]
    have hRw : w1.heap.size ≤ R := by rw [hR]; exact HOo.out.2.1.size
    have HK3 := Lib.hid (show KBs w1 R (.slice A N c) b t w3 from ⟨HOo.out.2.1.trans (b13.mono HOo.out.2.1.size), hbk⟩)
    have HRd := Lib.hid (show Rd u64v w1 w1.heap.size A ws ∧ Rd iN w1 w1.heap.size pA l ∧ w1.heap.size ≤ R from ⟨(HX.out.1.below H1.out.2).more H1.out.2.size, by
      have h := H1.out.1
      have e : M = l.length := HX.out.2.2.2.2.2.1
      rw [e] at h
      exact h.rd, hRw⟩)
    have HS0 : Hid (∃ fs', rFR w3 w1.heap.size (.slice none 0 0) fs' ∧ fs' ++ allE ws l (l.drop 0) = G ∧ KBs w1 R (.slice A N c) b t w3 ∧ (∀ k, ((.slice none 0 0) : Value).ownBlock = some k → k ≠ R)) := Lib.hid ⟨badF none, HOo.out.1.below b13, by rw [HG.out.1]; rfl, HK3.out, fun k hk => by have := (HOo.out.1.lt k hk).2; omega⟩
    clear hw3 hR hbk b13 hRw
    go_loopw [7, 11] (fun o x W => ∃ i : Nat, x = .int .i64 i ∧ i ≤ M ∧ Hid (∃ fs', rFR W w1.heap.size o fs' ∧ fs' ++ allE ws l (l.drop i) = G ∧ KBs w1 R (.slice A N c) b t W ∧ (∀ k, o.ownBlock = some k → k ≠ R))) (fun _ x _ => M - (Go.RowKit.intOf x).toNat)
    case atStart => exact ⟨0, rfl, Nat.zero_le _, HS0⟩
    case round =>
      obtain ⟨i, rfl, hi, hS⟩ := hrel
      clear HS0
      obtain ⟨fs', e1, e2, e3, e4R⟩ := hS.out
      have i0 : (0 : Int) ≤ (i : Int) := by omega
      by_cases hlt : i < M
      · have i1 : (i : Int) < (M : Int) := by omega
        have hil : i < l.length := by have := HX.out.2.2.2.2.2.1; omega
        obtain ⟨a, ha⟩ : ∃ a, a = l[i] := ⟨_, rfl⟩
        obtain ⟨adp, rfl, hadp, hcp⟩ := HRd.out.2.1 i hil
        rw [← ha] at hcp
        unfold iN at hcp
        have hal0 : a ∈ l := by rw [ha]; exact List.getElem_mem _
        obtain ⟨g1, g2, hg⟩ := HX.out.2.2.2.1 a hal0
        obtain ⟨x, hx⟩ : ∃ x, x = ws.getD a 0#64 := ⟨_, rfl⟩
        rw [← hx] at hg
        obtain ⟨hv, hP64, hB1024, hsx, hsz, hroom⟩ := head_of hg
        have HUn := Lib.hid (fun W => runpack_false x (goodX_out hg).2.1 W)
        rw [hv] at HUn
        obtain ⟨P, hP⟩ : ∃ P, P = P0 x := ⟨_, rfl⟩
        obtain ⟨nb, hn⟩ : ∃ P, P = B0 x := ⟨_, rfl⟩
        obtain ⟨sz, hszz⟩ : ∃ P, P = szX x := ⟨_, rfl⟩
        rw [← hP] at HUn hsz hP64 hsx
        rw [← hn] at HUn hsz hB1024 hsx
        rw [← hszz] at hsz hroom hsx
        have HSz := Lib.hid (fun W => rsize_c (P : Int) (nb : Int) false 0 W)
        rw [hsz] at HSz
        have hal : a < ws.length := by have := HX.out.2.1; omega
        obtain ⟨ad, rfl, hadl, hcw⟩ := HRd.out.1 a hal
        have hcx : w1.cell? (ad.add a) = some (.int .u64 (U64 x)) := by
          rw [hcw, hx, List.getD_eq_getElem?_getD, List.getElem?_eq_getElem hal]; rfl
        have q6 : (a : Int) < (N : Int) := by have := HX.out.2.2.2.2.1; omega
        have a0 : (0 : Int) ≤ (a : Int) := by omega
        have aI : (a : Int) ≤ 8192 := by omega
        have hl9 : (adp.add i).block < w1.heap.size := by rw [add_block]; exact hadp
        have hl8 : ∀ j, (ad.add j).block < w1.heap.size := fun j => by rw [add_block]; exact hadl
        have HC := Lib.hid (fun W (hb : KBs w1 R (.slice (some ad) N c) b t W) => show (adp.add i).block < W.heap.size ∧ W.cell? (adp.add i) = some (.int .i64 (a : Int)) ∧ W.cell? (ad.add a) = some (.int .u64 (U64 x)) from ⟨Nat.lt_of_lt_of_le hl9 hb.b.size, (hb.b.cell (p := adp.add i) hl9).trans hcp, (hb.b.cell (p := ad.add a) (hl8 a)).trans hcx⟩)
        have HPad := Lib.hid (fun W (hb : KBs w1 R (.slice (some ad) N c) b t W) => rpad_c W R (some ad) c ws b t t ⟨by rw [← HX.out.2.2.2.2.1]; exact hb.k, (HRd.out.1.below hb.b).more hb.b.size⟩ (by have := HX.out.2.2.1; omega) a P nb sz hP64 hB1024 hsz (by omega) (by have := HX.out.2.1; omega) (by omega))
        have hpd : (!padB ws (8 * (a + 1 + P) + nb) (8 * (a + sz) - (8 * (a + 1 + P) + nb))) = !padN ws a := by unfold padN; rw [← hx, ← hP, ← hn, ← hszz]
        rw [hpd] at HPad
        obtain ⟨pr, hpr⟩ : ∃ pr, pr = padN ws a := ⟨_, rfl⟩
        rw [← hpr] at HPad
        have hdr : l.drop i = a :: l.drop (i + 1) := by rw [List.drop_eq_getElem_cons hil, ha]
        rw [hdr] at e2
        obtain ⟨G2, hG2⟩ : ∃ G2, G2 = fs' ++ ptrF ws l a P 0 := ⟨_, rfl⟩
        have hpf : padF ws a = if pr = true then [] else [(a + sz - 1, ⟨#[112, 97, 100]⟩)] := by unfold padF; rw [← hpr, ← hx, ← hszz]; rfl
        have e2' : G2 ++ (if pr = true then [] else [(a + sz - 1, ⟨#[112, 97, 100]⟩)]) ++ allE ws l (l.drop (i + 1)) = G := by
          rw [hG2, ← hpf, ← e2]
          show fs' ++ ptrF ws l a P 0 ++ padF ws a ++ _ = fs' ++ (objE ws l a ++ _)
          unfold objE
          rw [← hx, ← hP]
          simp only [List.append_assoc]
        have hG2l : G2.length ≤ 5000 := by
          have h := HG.out.2
          rw [← e2', List.length_append, List.length_append] at h
          omega
        have HE := Lib.hid (And.intro e1 (And.intro e2' (And.intro e3 (And.intro hG2 (And.intro hG2l e4R)))))
        have HA := Lib.hid (And.intro hx (And.intro hsx (And.intro hroom (And.intro g1 g2))))
        obtain ⟨hcl, hcp', hcx'⟩ := HC.out wr e3
        have PI : (P : Int) ≤ 64 := by omega
        have s1 : (1 : Int) ≤ (sz : Int) := by omega
        have s2 : (sz : Int) ≤ 8192 := by omega
        have sPa : a + 1 + P ≤ ws.length := by have := HX.out.2.1; omega
        clear e1 e2 e2' e3 e4R hS ha hdr hil hal0 hg hv hsx hsz hroom hP hn hszz hx hcw hcx hcp hadl hadp hl9 hl8 hpd hpr hpf hG2 hG2l g1 g2 hal hP64 hB1024
        go_wp2_with fail
        refine Calls.mono (HUn.out wr) ?_
        rintro r w4 ⟨rfl, b4⟩
        have H4 := Lib.hid b4
        clear b4 hcl hcp' hcx'
        go_wp2_with fail
        obtain ⟨Hb, hHb⟩ : ∃ H, H = w4.heap.size := ⟨_, rfl⟩
        obtain ⟨w5, hw5⟩ : ∃ w3', w3' = w4.alloc (.cells #[.int .i64 (P : Int), .int .i64 (nb : Int), .bool false, .int .i64 0] 88) := ⟨_, rfl⟩
        have hbk : Bk w5 Hb 88 #[.int .i64 (P : Int), .int .i64 (nb : Int), .bool false, .int .i64 0] := by rw [hw5, hHb]; exact Bk.new w4 _ _
        have b45 : Below w4.heap.size w4 w5 := by rw [hw5]; exact Gw.alloc w4 _
        rw [← hw5, ← hHb]
        have b5 := H4.out.trans (b45.mono H4.out.size)
        have hHw : wr.heap.size ≤ Hb := by have := H4.out.size; omega
        have HS1 : Hid (∃ fs2, rFR w5 w1.heap.size u7 fs2 ∧ fs2 ++ ptrF ws l a (P - 0) 0 = G2 ∧ Bk w5 Hb 88 #[.int .i64 (P : Int), .int .i64 (nb : Int), .bool false, .int .i64 0] ∧ (∀ k, u7.ownBlock = some k → k ≠ Hb ∧ k ≠ R) ∧ KBs w1 R (.slice (some ad) N c) b t w5) := Lib.hid ⟨fs', HE.out.1.below b5, HE.out.2.2.2.1.symm, hbk, fun k hk => ⟨fun e => by have := (HE.out.1.lt k hk).2; omega, HE.out.2.2.2.2.2 k hk⟩, HE.out.2.2.1.go b5⟩
        clear hw5 hHb b45 hbk b5 hHw
        go_loopw [7, 14] (fun o x W => ∃ k : Nat, x = .int .i64 k ∧ k ≤ P ∧ Hid (∃ fs2, rFR W w1.heap.size o fs2 ∧ fs2 ++ ptrF ws l a (P - k) k = G2 ∧ Bk W Hb 88 #[.int .i64 (P : Int), .int .i64 (nb : Int), .bool false, .int .i64 0] ∧ (∀ k, o.ownBlock = some k → k ≠ Hb ∧ k ≠ R) ∧ KBs w1 R (.slice (some ad) N c) b t W)) (fun _ x _ => P - (Go.RowKit.intOf x).toNat)
        case atStart => exact ⟨0, rfl, Nat.zero_le _, HS1⟩
        case round =>
          obtain ⟨k, rfl, hk, hS⟩ := hrel
          clear HS1
          obtain ⟨fs2, e1, e2, e3, e4, e5⟩ := hS.out
          obtain ⟨hcl, hcp, hcx⟩ := HC.out wr e5
          obtain ⟨g0, g1, g2, g3⟩ := e3.four
          have hHl := e3.lt
          have k0 : (0 : Int) ≤ (k : Int) := by omega
          by_cases hkP : k < P
          · have k1 : (k : Int) < (P : Int) := by omega
            obtain ⟨q, hq⟩ : ∃ q, q = a + 1 + k := ⟨_, rfl⟩
            have hql : q < ws.length := by omega
            have q8 : (a : Int) + 1 + (k : Int) = (q : Int) := by omega
            have q9 : (q : Int) < (N : Int) := by have := HX.out.2.2.2.2.1; omega
            have q7 : (0 : Int) ≤ (q : Int) := by omega
            obtain ⟨ad2, had2, hadl2, hcw2⟩ := ((HRd.out.1.below e5.b).more e5.b.size) q hql
            injection had2 with had2
            subst had2
            obtain ⟨y, hy⟩ : ∃ y, y = ws[q] := ⟨_, rfl⟩
            rw [← hy] at hcw2
            have hcy : wr.cell? (ad.add q) = some (.int .u64 (U64 y)) := hcw2
            have hye : ws.getD (a + 1 + k) 0#64 = y := by rw [← hq, hy, List.getD_eq_getElem?_getD, List.getElem?_eq_getElem hql]; rfl
            have hMl : M = l.length := HX.out.2.2.2.2.2.1
            have HPt := Lib.hid (points_c wr (some adp) pc l ((HRd.out.2.1.below e5.b).more e5.b.size) (by have := HX.out.2.2.2.2.2.2; omega) (fun z hz => by have := (HX.out.2.2.2.1 z hz).2.1; omega) y)
            obtain ⟨r, hr⟩ : ∃ r, r = decide (y.toNat = 0 ∨ (1 ≤ y.toNat ∧ y.toNat - 1 ∈ l)) := ⟨_, rfl⟩
            have hpn : ptrN ws l a k = r := by unfold ptrN; rw [hye, hr]
            rw [← hr, ← hMl] at HPt
            obtain ⟨j, hj⟩ : ∃ j, P - k = j + 1 := ⟨P - k - 1, by omega⟩
            rw [hj, ptrF_at, hpn] at e2
            have hj2 : P - (k + 1) = j := by omega
            have hfl : fs2.length ≤ 5000 := by
              have h := HE.out.2.2.2.2.1
              rw [← e2, List.length_append] at h
              omega
            have HE2 := Lib.hid (And.intro e1 (And.intro e2 (And.intro e3 (And.intro e4 (And.intro e5 (And.intro hj2 (And.intro hq hfl)))))))
            have qI : (q : Int) ≤ 8192 := by have := HX.out.2.2.1; omega
            obtain ⟨yv, hyv⟩ : ∃ yv, yv = U64 y := ⟨_, rfl⟩
            rw [← hyv] at hcy HPt
            clear e1 e2 e3 e4 e5 hS hy hye hr hpn hj hj2 hq hyv hcw2 hadl2 hMl hfl
            cases r with
            | true =>
              go_wp2_with fail
              refine Calls.mono HPt.out ?_
              rintro r w7 ⟨rfl, b7⟩
              have HN : Hid (∃ fs2, rFR w7 w1.heap.size u7 fs2 ∧ fs2 ++ ptrF ws l a (P - (k + 1)) (k + 1) = G2 ∧ Bk w7 Hb 88 #[.int .i64 (P : Int), .int .i64 (nb : Int), .bool false, .int .i64 0] ∧ (∀ k, u7.ownBlock = some k → k ≠ Hb ∧ k ≠ R) ∧ KBs w1 R (.slice (some ad) N c) b t w7) := by
                obtain ⟨e1, e2, e3, e4, e5, hj2, hq, hfl⟩ := HE2.out
                exact Lib.hid ⟨fs2, e1.below b7, by rw [hj2]; exact e2, e3.below b7 e3.lt, e4, e5.go b7⟩
              clear b7 hcl hcp hcx hcy g0 g1 g2 g3
              go_wp2_with fail
              go_roundw
              case rel => first | exact ⟨k + 1, by go_num, by omega, HN⟩ | ((repeat apply Exists.intro); refine ⟨?_, rfl⟩; exact ⟨k + 1, by go_num, by omega, HN⟩)
              case measure => simp [Go.RowKit.intOf]; omega
            | false =>
              go_wp2_with fail
              refine Calls.mono HPt.out ?_
              rintro r w7 ⟨rfl, b7⟩
              have H7 := Lib.hid b7
              have hcp := (b7.cell (p := adp.add i) hcl).trans hcp
              have hcl := Nat.lt_of_lt_of_le hcl b7.size
              have HO := Lib.hid (HE2.out.1.below b7)
              have HLn := Lib.hid (show fs2.length + [(q, (⟨#[112, 116, 114]⟩ : ByteArray))].length ≤ 100000 by have := HE2.out.2.2.2.2.2.2.2; simp; omega)
              have HBs := Lib.hid (show w1.heap.size ≤ w7.heap.size by have := HE2.out.2.2.2.2.1.b.size; have := b7.size; omega)
              clear b7 hcx hcy g0 g1 g2 g3
              go_wp2_with (at_builtin; refine rwp_appF rfl (.tmp 71) (.tmp 80) rfl rfl (HO.out.below (Gw.alloc w7 _)) (some ⟨w7.heap.size, 0, none⟩) 1 1 [(q, ⟨#[112, 116, 114]⟩)] rfl rfl (rrdF_new w7 q _) HLn.out (Nat.le_trans HBs.out (Gw.alloc w7 _).size) ?_; intro v8 w8 ho8 hb8 hg8 hv8; have H8 := Lib.hid (And.intro ho8 (And.intro hg8 hv8)); clear ho8 hb8 hg8 hv8)
              have HN : Hid (∃ fs2, rFR w8 w1.heap.size v8 fs2 ∧ fs2 ++ ptrF ws l a (P - (k + 1)) (k + 1) = G2 ∧ Bk w8 Hb 88 #[.int .i64 (P : Int), .int .i64 (nb : Int), .bool false, .int .i64 0] ∧ (∀ k, v8.ownBlock = some k → k ≠ Hb ∧ k ≠ R) ∧ KBs w1 R (.slice (some ad) N c) b t w8) := by
                obtain ⟨e1, e2, e3, e4, e5, hj2, hq, hfl⟩ := HE2.out
                obtain ⟨ho8, hg8, hv8⟩ := H8.out
                have b7 := H7.out
                have hH7 := (e3.below b7 e3.lt)
                have hHl7 := hH7.lt
                have hA := Gw.alloc w7 (.cells #[.int .i64 (q : Int), .string ⟨#[112, 116, 114]⟩] 76)
                have h7 := e5.go b7
                refine Lib.hid ⟨fs2 ++ [(q, ⟨#[112, 116, 114]⟩)], ho8, ?_, (hH7.alloc _).grownK hg8 (fun e => (e4 Hb e.symm).1 rfl), fun k2 hk2 => ?_, ?_⟩
                · rw [hj2, ← e2, hq, List.append_assoc]
                  rfl
                · rcases hv8 with h | h
                  · rw [h] at hk2; exact e4 k2 hk2
                  · rw [h] at hk2
                    injection hk2 with hk2
                    have := hA.size
                    have := h7.k.lt
                    exact ⟨by omega, by omega⟩
                · exact (h7.go hA).app hg8 (fun k2 hk2 => ⟨(e1.lt k2 hk2).1, (e4 k2 hk2).2⟩)
              clear hcp hcl
              go_roundw
              case rel => first | exact ⟨k + 1, by go_num, by omega, HN⟩ | ((repeat apply Exists.intro); refine ⟨?_, rfl⟩; exact ⟨k + 1, by go_num, by omega, HN⟩)
              case measure => simp [Go.RowKit.intOf]; omega
          · have k1 : ¬ (k : Int) < (P : Int) := by omega
            have hfs : fs2 = G2 := by rw [← e2, show P - k = 0 by omega]; exact (List.append_nil _).symm
            have HE2 := Lib.hid (And.intro e1 (And.intro hfs (And.intro e3 (And.intro e4 e5))))
            have HPd := Lib.hid (fun W (hb : Below wr.heap.size wr W) => HPad.out W (e5.go hb))
            clear e1 e2 e3 e4 e5 hS hfs hcx
            go_wp2_with fail
            refine rs15 _ _ _ Hb R i a M adp (some adp) pc (P : Int) (nb : Int) (!pr) hHl g0 g1 g2 g3 rfl hcl hcp i0 i1 HPd rfl ?_ ?_ ?_ ?_ ?_
            · rfl
            · rfl
            · rfl
            · rfl
            intro vals7 w7 hG h88
            unfold IsV at h88
            simp only [putD, Act.put, List.setIfInBounds_toArray, List.set_cons_zero, List.set_cons_succ, h88]
            have H7 := Lib.hid hG
            have hcp := (hG.cell (p := adp.add i) hcl).trans hcp
            have hcl := Nat.lt_of_lt_of_le hcl hG.size
            have g0 := (hG.cell (p := ⟨Hb, 0, none⟩) hHl).trans g0
            have g1 := (hG.cell (p := ⟨Hb, 1, none⟩) hHl).trans g1
            have g2 := (hG.cell (p := ⟨Hb, 2, none⟩) hHl).trans g2
            have g3 := (hG.cell (p := ⟨Hb, 3, none⟩) hHl).trans g3
            have hHl := Nat.lt_of_lt_of_le hHl hG.size
            clear hG h88
            cases pr with
            | true =>
              have HN : Hid (∃ fs', rFR w7 w1.heap.size u7 fs' ∧ fs' ++ allE ws l (l.drop (i + 1)) = G ∧ KBs w1 R (.slice (some ad) N c) b t w7 ∧ (∀ k, u7.ownBlock = some k → k ≠ R)) := by
                obtain ⟨e1, hfs, e3, e4, e5⟩ := HE2.out
                have h := HE.out.2.1
                rw [if_pos rfl, List.append_nil] at h
                exact Lib.hid ⟨fs2, e1.below H7.out, by rw [hfs]; exact h, e5.go H7.out, fun k hk => (e4 k hk).2⟩
              clear g0 g1 g2 g3 hcp
              go_wp2_with fail
              go_roundw
              case rel => first | exact ⟨i + 1, by go_num, by omega, HN⟩ | ((repeat apply Exists.intro); refine ⟨?_, rfl⟩; exact ⟨i + 1, by go_num, by omega, HN⟩)
              case measure => simp [Go.RowKit.intOf]; omega
            | false =>
              obtain ⟨la, hla⟩ : ∃ la, la = a + sz - 1 := ⟨_, rfl⟩
              have la2 : (a : Int) + (sz : Int) - 1 = (la : Int) := by omega
              have HLa := Lib.hid hla
              go_wp2_with fail
              refine rs16 _ _ _ Hb i a M sz la adp (some adp) pc (P : Int) (nb : Int) u7 hHl g0 g1 g2 g3 rfl hcl hcp i0 i1 la2 aI s2 a0 s1 HSz rfl ?_ ?_ ?_ ?_ ?_
              · rfl
              · rfl
              · rfl
              · rfl
              intro vals8 w8 hG8 h89 h99
              obtain ⟨q8, h99, hq8, hb8⟩ := h99
              unfold IsV at h89
              simp only [putD, Act.put, List.setIfInBounds_toArray, List.set_cons_zero, List.set_cons_succ, h89, h99]
              have HO := Lib.hid ((HE2.out.1.below H7.out).below hG8)
              have H8 := Lib.hid hG8
              have HLn := Lib.hid (show fs2.length + [(la, (⟨#[112, 97, 100]⟩ : ByteArray))].length ≤ 100000 by have := HE.out.2.2.2.2; have := HE2.out.2.1; rw [this]; simp; omega)
              refine rwp_appF rfl (.tmp 89) (.tmp 99) rfl rfl HO.out (some ⟨q8, 0, none⟩) 1 1 [(la, ⟨#[112, 97, 100]⟩)] rfl rfl (rrdF_bk la _ hb8) HLn.out (by have := HE2.out.2.2.2.2.b.size; have := H7.out.size; have := hG8.size; omega) ?_
              intro v9 w9 ho9 hb9 hg9 hv9
              refine ⟨rfl, trivial, ?_⟩
              have HN : Hid (∃ fs', rFR w9 w1.heap.size v9 fs' ∧ fs' ++ allE ws l (l.drop (i + 1)) = G ∧ KBs w1 R (.slice (some ad) N c) b t w9 ∧ (∀ k, v9.ownBlock = some k → k ≠ R)) := by
                obtain ⟨e1, hfs, e3, e4, e5⟩ := HE2.out
                have h := HE.out.2.1
                rw [if_neg (by decide), ← HLa.out] at h
                have h7 := e5.go H7.out
                have h8 := h7.go hG8
                exact Lib.hid ⟨fs2 ++ [(la, ⟨#[112, 97, 100]⟩)], ho9, by rw [hfs]; exact h, h8.app hg9 (fun k2 hk2 => ⟨(e1.lt k2 hk2).1, (e4 k2 hk2).2⟩), fun k2 hk2 => by
                  rcases hv9 with hv | hv
                  · rw [hv] at hk2; exact (e4 k2 hk2).2
                  · rw [hv] at hk2
                    injection hk2 with hk2
                    have := h8.k.lt
                    omega⟩
              clear ho9 hb9 hg9 hv9 hG8 h89 h99 hb8 hq8 g0 g1 g2 g3 hcp
              go_wp2_with fail
              go_roundw
              case rel => first | exact ⟨i + 1, by go_num, by omega, HN⟩ | ((repeat apply Exists.intro); refine ⟨?_, rfl⟩; exact ⟨i + 1, by go_num, by omega, HN⟩)
              case measure => simp [Go.RowKit.intOf]; omega
      · have i1 : ¬ (i : Int) < (M : Int) := by omega
        have hfs : fs' = G := by
          have hMl : M = l.length := HX.out.2.2.2.2.2.1
          rw [← e2, List.drop_of_length_le (by omega)]
          exact (List.append_nil _).symm
        have HE := Lib.hid (And.intro e1 (And.intro hfs e3))
        clear e1 e2 e3 e4R hS hfs
        go_wp2_with fail
        go_ret
        obtain ⟨e1, hfs, e3⟩ := HE.out
        have hb := H1.out.2.trans (e3.b.mono H1.out.2.size)
        refine ⟨u7, rfl, ?_, hb⟩
        rw [← hfs]
        exact ⟨e1.1, e1.2.imp id fun ⟨q, cap, cur, h1, h2, h3⟩ => ⟨q, cap, cur, h1, Nat.le_trans H1.out.2.size h2, h3⟩⟩
  | some x0 =>
    have hbi : badI (some x0) = (x0 : Int) := rfl
    rw [hbi]
    have x00 : (0 : Int) ≤ (x0 : Int) := by omega
    go_wp2_with (at_builtin; refine rwp_appF rfl (.tmp 24) (.tmp 27) rfl rfl (rFR.nil _ w1.heap.size) (some ⟨w1.heap.size, 0, none⟩) 1 1 [(x0, ⟨#[104, 101, 97, 100]⟩)] rfl rfl (rrdF_new w1 x0 _) (by simp) (Gw.alloc w1 _).size ?_; intro v2 w2 ho2 hb2 hg2 hv2; obtain ⟨oA, oN, oC, e2o⟩ := rfr_slice ho2; subst e2o; have HOo := Lib.hid (show rFR w2 w1.heap.size (.slice oA oN oC) (badF (some x0)) ∧ Below w1.heap.size w1 w2 ∧ True from ⟨ho2, (Gw.alloc w1 _).trans hb2, trivial⟩); clear ho2 hb2 hg2 hv2)
    obtain ⟨R, hR⟩ : ∃ R, R = w2.heap.size := ⟨_, rfl⟩
    obtain ⟨w3, hw3⟩ : ∃ w3, w3 = w2.alloc (.cells #[.slice A N c, .int .i64 (b : Int), .int .i64 (t : Int), .int .i64 (t : Int)] 41) := ⟨_, rfl⟩
    have hbk : Bk w3 R 41 #[.slice A N c, .int .i64 (b : Int), .int .i64 (t : Int), .int .i64 (t : Int)] := by rw [hw3, hR]; exact Bk.new w2 _ _
    have b13 : Below w2.heap.size w2 w3 := by rw [hw3]; exact Gw.alloc w2 _
    rw [← hw3, ← hR]
    have hRw : w1.heap.size ≤ R := by rw [hR]; exact HOo.out.2.1.size
    have HK3 := Lib.hid (show KBs w1 R (.slice A N c) b t w3 from ⟨HOo.out.2.1.trans (b13.mono HOo.out.2.1.size), hbk⟩)
    have HRd := Lib.hid (show Rd u64v w1 w1.heap.size A ws ∧ Rd iN w1 w1.heap.size pA l ∧ w1.heap.size ≤ R from ⟨(HX.out.1.below H1.out.2).more H1.out.2.size, by
      have h := H1.out.1
      have e : M = l.length := HX.out.2.2.2.2.2.1
      rw [e] at h
      exact h.rd, hRw⟩)
    have HS0 : Hid (∃ fs', rFR w3 w1.heap.size (.slice oA oN oC) fs' ∧ fs' ++ allE ws l (l.drop 0) = G ∧ KBs w1 R (.slice A N c) b t w3 ∧ (∀ k, ((.slice oA oN oC) : Value).ownBlock = some k → k ≠ R)) := Lib.hid ⟨badF (some x0), HOo.out.1.below b13, by rw [HG.out.1]; rfl, HK3.out, fun k hk => by have := (HOo.out.1.lt k hk).2; omega⟩
    clear hw3 hR hbk b13 hRw
    go_loopw [7, 11] (fun o x W => ∃ i : Nat, x = .int .i64 i ∧ i ≤ M ∧ Hid (∃ fs', rFR W w1.heap.size o fs' ∧ fs' ++ allE ws l (l.drop i) = G ∧ KBs w1 R (.slice A N c) b t W ∧ (∀ k, o.ownBlock = some k → k ≠ R))) (fun _ x _ => M - (Go.RowKit.intOf x).toNat)
    case atStart => exact ⟨0, rfl, Nat.zero_le _, HS0⟩
    case round =>
      obtain ⟨i, rfl, hi, hS⟩ := hrel
      clear HS0
      obtain ⟨fs', e1, e2, e3, e4R⟩ := hS.out
      have i0 : (0 : Int) ≤ (i : Int) := by omega
      by_cases hlt : i < M
      · have i1 : (i : Int) < (M : Int) := by omega
        have hil : i < l.length := by have := HX.out.2.2.2.2.2.1; omega
        obtain ⟨a, ha⟩ : ∃ a, a = l[i] := ⟨_, rfl⟩
        obtain ⟨adp, rfl, hadp, hcp⟩ := HRd.out.2.1 i hil
        rw [← ha] at hcp
        unfold iN at hcp
        have hal0 : a ∈ l := by rw [ha]; exact List.getElem_mem _
        obtain ⟨g1, g2, hg⟩ := HX.out.2.2.2.1 a hal0
        obtain ⟨x, hx⟩ : ∃ x, x = ws.getD a 0#64 := ⟨_, rfl⟩
        rw [← hx] at hg
        obtain ⟨hv, hP64, hB1024, hsx, hsz, hroom⟩ := head_of hg
        have HUn := Lib.hid (fun W => runpack_false x (goodX_out hg).2.1 W)
        rw [hv] at HUn
        obtain ⟨P, hP⟩ : ∃ P, P = P0 x := ⟨_, rfl⟩
        obtain ⟨nb, hn⟩ : ∃ P, P = B0 x := ⟨_, rfl⟩
        obtain ⟨sz, hszz⟩ : ∃ P, P = szX x := ⟨_, rfl⟩
        rw [← hP] at HUn hsz hP64 hsx
        rw [← hn] at HUn hsz hB1024 hsx
        rw [← hszz] at hsz hroom hsx
        have HSz := Lib.hid (fun W => rsize_c (P : Int) (nb : Int) false 0 W)
        rw [hsz] at HSz
        have hal : a < ws.length := by have := HX.out.2.1; omega
        obtain ⟨ad, rfl, hadl, hcw⟩ := HRd.out.1 a hal
        have hcx : w1.cell? (ad.add a) = some (.int .u64 (U64 x)) := by
          rw [hcw, hx, List.getD_eq_getElem?_getD, List.getElem?_eq_getElem hal]; rfl
        have q6 : (a : Int) < (N : Int) := by have := HX.out.2.2.2.2.1; omega
        have a0 : (0 : Int) ≤ (a : Int) := by omega
        have aI : (a : Int) ≤ 8192 := by omega
        have hl9 : (adp.add i).block < w1.heap.size := by rw [add_block]; exact hadp
        have hl8 : ∀ j, (ad.add j).block < w1.heap.size := fun j => by rw [add_block]; exact hadl
        have HC := Lib.hid (fun W (hb : KBs w1 R (.slice (some ad) N c) b t W) => show (adp.add i).block < W.heap.size ∧ W.cell? (adp.add i) = some (.int .i64 (a : Int)) ∧ W.cell? (ad.add a) = some (.int .u64 (U64 x)) from ⟨Nat.lt_of_lt_of_le hl9 hb.b.size, (hb.b.cell (p := adp.add i) hl9).trans hcp, (hb.b.cell (p := ad.add a) (hl8 a)).trans hcx⟩)
        have HPad := Lib.hid (fun W (hb : KBs w1 R (.slice (some ad) N c) b t W) => rpad_c W R (some ad) c ws b t t ⟨by rw [← HX.out.2.2.2.2.1]; exact hb.k, (HRd.out.1.below hb.b).more hb.b.size⟩ (by have := HX.out.2.2.1; omega) a P nb sz hP64 hB1024 hsz (by omega) (by have := HX.out.2.1; omega) (by omega))
        have hpd : (!padB ws (8 * (a + 1 + P) + nb) (8 * (a + sz) - (8 * (a + 1 + P) + nb))) = !padN ws a := by unfold padN; rw [← hx, ← hP, ← hn, ← hszz]
        rw [hpd] at HPad
        obtain ⟨pr, hpr⟩ : ∃ pr, pr = padN ws a := ⟨_, rfl⟩
        rw [← hpr] at HPad
        have hdr : l.drop i = a :: l.drop (i + 1) := by rw [List.drop_eq_getElem_cons hil, ha]
        rw [hdr] at e2
        obtain ⟨G2, hG2⟩ : ∃ G2, G2 = fs' ++ ptrF ws l a P 0 := ⟨_, rfl⟩
        have hpf : padF ws a = if pr = true then [] else [(a + sz - 1, ⟨#[112, 97, 100]⟩)] := by unfold padF; rw [← hpr, ← hx, ← hszz]; rfl
        have e2' : G2 ++ (if pr = true then [] else [(a + sz - 1, ⟨#[112, 97, 100]⟩)]) ++ allE ws l (l.drop (i + 1)) = G := by
          rw [hG2, ← hpf, ← e2]
          show fs' ++ ptrF ws l a P 0 ++ padF ws a ++ _ = fs' ++ (objE ws l a ++ _)
          unfold objE
          rw [← hx, ← hP]
          simp only [List.append_assoc]
        have hG2l : G2.length ≤ 5000 := by
          have h := HG.out.2
          rw [← e2', List.length_append, List.length_append] at h
          omega
        have HE := Lib.hid (And.intro e1 (And.intro e2' (And.intro e3 (And.intro hG2 (And.intro hG2l e4R)))))
        have HA := Lib.hid (And.intro hx (And.intro hsx (And.intro hroom (And.intro g1 g2))))
        obtain ⟨hcl, hcp', hcx'⟩ := HC.out wr e3
        have PI : (P : Int) ≤ 64 := by omega
        have s1 : (1 : Int) ≤ (sz : Int) := by omega
        have s2 : (sz : Int) ≤ 8192 := by omega
        have sPa : a + 1 + P ≤ ws.length := by have := HX.out.2.1; omega
        clear e1 e2 e2' e3 e4R hS ha hdr hil hal0 hg hv hsx hsz hroom hP hn hszz hx hcw hcx hcp hadl hadp hl9 hl8 hpd hpr hpf hG2 hG2l g1 g2 hal hP64 hB1024
        go_wp2_with fail
        refine Calls.mono (HUn.out wr) ?_
        rintro r w4 ⟨rfl, b4⟩
        have H4 := Lib.hid b4
        clear b4 hcl hcp' hcx'
        go_wp2_with fail
        obtain ⟨Hb, hHb⟩ : ∃ H, H = w4.heap.size := ⟨_, rfl⟩
        obtain ⟨w5, hw5⟩ : ∃ w3', w3' = w4.alloc (.cells #[.int .i64 (P : Int), .int .i64 (nb : Int), .bool false, .int .i64 0] 88) := ⟨_, rfl⟩
        have hbk : Bk w5 Hb 88 #[.int .i64 (P : Int), .int .i64 (nb : Int), .bool false, .int .i64 0] := by rw [hw5, hHb]; exact Bk.new w4 _ _
        have b45 : Below w4.heap.size w4 w5 := by rw [hw5]; exact Gw.alloc w4 _
        rw [← hw5, ← hHb]
        have b5 := H4.out.trans (b45.mono H4.out.size)
        have hHw : wr.heap.size ≤ Hb := by have := H4.out.size; omega
        have HS1 : Hid (∃ fs2, rFR w5 w1.heap.size u7 fs2 ∧ fs2 ++ ptrF ws l a (P - 0) 0 = G2 ∧ Bk w5 Hb 88 #[.int .i64 (P : Int), .int .i64 (nb : Int), .bool false, .int .i64 0] ∧ (∀ k, u7.ownBlock = some k → k ≠ Hb ∧ k ≠ R) ∧ KBs w1 R (.slice (some ad) N c) b t w5) := Lib.hid ⟨fs', HE.out.1.below b5, HE.out.2.2.2.1.symm, hbk, fun k hk => ⟨fun e => by have := (HE.out.1.lt k hk).2; omega, HE.out.2.2.2.2.2 k hk⟩, HE.out.2.2.1.go b5⟩
        clear hw5 hHb b45 hbk b5 hHw
        go_loopw [7, 14] (fun o x W => ∃ k : Nat, x = .int .i64 k ∧ k ≤ P ∧ Hid (∃ fs2, rFR W w1.heap.size o fs2 ∧ fs2 ++ ptrF ws l a (P - k) k = G2 ∧ Bk W Hb 88 #[.int .i64 (P : Int), .int .i64 (nb : Int), .bool false, .int .i64 0] ∧ (∀ k, o.ownBlock = some k → k ≠ Hb ∧ k ≠ R) ∧ KBs w1 R (.slice (some ad) N c) b t W)) (fun _ x _ => P - (Go.RowKit.intOf x).toNat)
        case atStart => exact ⟨0, rfl, Nat.zero_le _, HS1⟩
        case round =>
          obtain ⟨k, rfl, hk, hS⟩ := hrel
          clear HS1
          obtain ⟨fs2, e1, e2, e3, e4, e5⟩ := hS.out
          obtain ⟨hcl, hcp, hcx⟩ := HC.out wr e5
          obtain ⟨g0, g1, g2, g3⟩ := e3.four
          have hHl := e3.lt
          have k0 : (0 : Int) ≤ (k : Int) := by omega
          by_cases hkP : k < P
          · have k1 : (k : Int) < (P : Int) := by omega
            obtain ⟨q, hq⟩ : ∃ q, q = a + 1 + k := ⟨_, rfl⟩
            have hql : q < ws.length := by omega
            have q8 : (a : Int) + 1 + (k : Int) = (q : Int) := by omega
            have q9 : (q : Int) < (N : Int) := by have := HX.out.2.2.2.2.1; omega
            have q7 : (0 : Int) ≤ (q : Int) := by omega
            obtain ⟨ad2, had2, hadl2, hcw2⟩ := ((HRd.out.1.below e5.b).more e5.b.size) q hql
            injection had2 with had2
            subst had2
            obtain ⟨y, hy⟩ : ∃ y, y = ws[q] := ⟨_, rfl⟩
            rw [← hy] at hcw2
            have hcy : wr.cell? (ad.add q) = some (.int .u64 (U64 y)) := hcw2
            have hye : ws.getD (a + 1 + k) 0#64 = y := by rw [← hq, hy, List.getD_eq_getElem?_getD, List.getElem?_eq_getElem hql]; rfl
            have hMl : M = l.length := HX.out.2.2.2.2.2.1
            have HPt := Lib.hid (points_c wr (some adp) pc l ((HRd.out.2.1.below e5.b).more e5.b.size) (by have := HX.out.2.2.2.2.2.2; omega) (fun z hz => by have := (HX.out.2.2.2.1 z hz).2.1; omega) y)
            obtain ⟨r, hr⟩ : ∃ r, r = decide (y.toNat = 0 ∨ (1 ≤ y.toNat ∧ y.toNat - 1 ∈ l)) := ⟨_, rfl⟩
            have hpn : ptrN ws l a k = r := by unfold ptrN; rw [hye, hr]
            rw [← hr, ← hMl] at HPt
            obtain ⟨j, hj⟩ : ∃ j, P - k = j + 1 := ⟨P - k - 1, by omega⟩
            rw [hj, ptrF_at, hpn] at e2
            have hj2 : P - (k + 1) = j := by omega
            have hfl : fs2.length ≤ 5000 := by
              have h := HE.out.2.2.2.2.1
              rw [← e2, List.length_append] at h
              omega
            have HE2 := Lib.hid (And.intro e1 (And.intro e2 (And.intro e3 (And.intro e4 (And.intro e5 (And.intro hj2 (And.intro hq hfl)))))))
            have qI : (q : Int) ≤ 8192 := by have := HX.out.2.2.1; omega
            obtain ⟨yv, hyv⟩ : ∃ yv, yv = U64 y := ⟨_, rfl⟩
            rw [← hyv] at hcy HPt
            clear e1 e2 e3 e4 e5 hS hy hye hr hpn hj hj2 hq hyv hcw2 hadl2 hMl hfl
            cases r with
            | true =>
              go_wp2_with fail
              refine Calls.mono HPt.out ?_
              rintro r w7 ⟨rfl, b7⟩
              have HN : Hid (∃ fs2, rFR w7 w1.heap.size u7 fs2 ∧ fs2 ++ ptrF ws l a (P - (k + 1)) (k + 1) = G2 ∧ Bk w7 Hb 88 #[.int .i64 (P : Int), .int .i64 (nb : Int), .bool false, .int .i64 0] ∧ (∀ k, u7.ownBlock = some k → k ≠ Hb ∧ k ≠ R) ∧ KBs w1 R (.slice (some ad) N c) b t w7) := by
                obtain ⟨e1, e2, e3, e4, e5, hj2, hq, hfl⟩ := HE2.out
                exact Lib.hid ⟨fs2, e1.below b7, by rw [hj2]; exact e2, e3.below b7 e3.lt, e4, e5.go b7⟩
              clear b7 hcl hcp hcx hcy g0 g1 g2 g3
              go_wp2_with fail
              go_roundw
              case rel => first | exact ⟨k + 1, by go_num, by omega, HN⟩ | ((repeat apply Exists.intro); refine ⟨?_, rfl⟩; exact ⟨k + 1, by go_num, by omega, HN⟩)
              case measure => simp [Go.RowKit.intOf]; omega
            | false =>
              go_wp2_with fail
              refine Calls.mono HPt.out ?_
              rintro r w7 ⟨rfl, b7⟩
              have H7 := Lib.hid b7
              have hcp := (b7.cell (p := adp.add i) hcl).trans hcp
              have hcl := Nat.lt_of_lt_of_le hcl b7.size
              have HO := Lib.hid (HE2.out.1.below b7)
              have HLn := Lib.hid (show fs2.length + [(q, (⟨#[112, 116, 114]⟩ : ByteArray))].length ≤ 100000 by have := HE2.out.2.2.2.2.2.2.2; simp; omega)
              have HBs := Lib.hid (show w1.heap.size ≤ w7.heap.size by have := HE2.out.2.2.2.2.1.b.size; have := b7.size; omega)
              clear b7 hcx hcy g0 g1 g2 g3
              go_wp2_with (at_builtin; refine rwp_appF rfl (.tmp 71) (.tmp 80) rfl rfl (HO.out.below (Gw.alloc w7 _)) (some ⟨w7.heap.size, 0, none⟩) 1 1 [(q, ⟨#[112, 116, 114]⟩)] rfl rfl (rrdF_new w7 q _) HLn.out (Nat.le_trans HBs.out (Gw.alloc w7 _).size) ?_; intro v8 w8 ho8 hb8 hg8 hv8; have H8 := Lib.hid (And.intro ho8 (And.intro hg8 hv8)); clear ho8 hb8 hg8 hv8)
              have HN : Hid (∃ fs2, rFR w8 w1.heap.size v8 fs2 ∧ fs2 ++ ptrF ws l a (P - (k + 1)) (k + 1) = G2 ∧ Bk w8 Hb 88 #[.int .i64 (P : Int), .int .i64 (nb : Int), .bool false, .int .i64 0] ∧ (∀ k, v8.ownBlock = some k → k ≠ Hb ∧ k ≠ R) ∧ KBs w1 R (.slice (some ad) N c) b t w8) := by
                obtain ⟨e1, e2, e3, e4, e5, hj2, hq, hfl⟩ := HE2.out
                obtain ⟨ho8, hg8, hv8⟩ := H8.out
                have b7 := H7.out
                have hH7 := (e3.below b7 e3.lt)
                have hHl7 := hH7.lt
                have hA := Gw.alloc w7 (.cells #[.int .i64 (q : Int), .string ⟨#[112, 116, 114]⟩] 76)
                have h7 := e5.go b7
                refine Lib.hid ⟨fs2 ++ [(q, ⟨#[112, 116, 114]⟩)], ho8, ?_, (hH7.alloc _).grownK hg8 (fun e => (e4 Hb e.symm).1 rfl), fun k2 hk2 => ?_, ?_⟩
                · rw [hj2, ← e2, hq, List.append_assoc]
                  rfl
                · rcases hv8 with h | h
                  · rw [h] at hk2; exact e4 k2 hk2
                  · rw [h] at hk2
                    injection hk2 with hk2
                    have := hA.size
                    have := h7.k.lt
                    exact ⟨by omega, by omega⟩
                · exact (h7.go hA).app hg8 (fun k2 hk2 => ⟨(e1.lt k2 hk2).1, (e4 k2 hk2).2⟩)
              clear hcp hcl
              go_roundw
              case rel => first | exact ⟨k + 1, by go_num, by omega, HN⟩ | ((repeat apply Exists.intro); refine ⟨?_, rfl⟩; exact ⟨k + 1, by go_num, by omega, HN⟩)
              case measure => simp [Go.RowKit.intOf]; omega
          · have k1 : ¬ (k : Int) < (P : Int) := by omega
            have hfs : fs2 = G2 := by rw [← e2, show P - k = 0 by omega]; exact (List.append_nil _).symm
            have HE2 := Lib.hid (And.intro e1 (And.intro hfs (And.intro e3 (And.intro e4 e5))))
            have HPd := Lib.hid (fun W (hb : Below wr.heap.size wr W) => HPad.out W (e5.go hb))
            clear e1 e2 e3 e4 e5 hS hfs hcx
            go_wp2_with fail
            refine rs15 _ _ _ Hb R i a M adp (some adp) pc (P : Int) (nb : Int) (!pr) hHl g0 g1 g2 g3 rfl hcl hcp i0 i1 HPd rfl ?_ ?_ ?_ ?_ ?_
            · rfl
            · rfl
            · rfl
            · rfl
            intro vals7 w7 hG h88
            unfold IsV at h88
            simp only [putD, Act.put, List.setIfInBounds_toArray, List.set_cons_zero, List.set_cons_succ, h88]
            have H7 := Lib.hid hG
            have hcp := (hG.cell (p := adp.add i) hcl).trans hcp
            have hcl := Nat.lt_of_lt_of_le hcl hG.size
            have g0 := (hG.cell (p := ⟨Hb, 0, none⟩) hHl).trans g0
            have g1 := (hG.cell (p := ⟨Hb, 1, none⟩) hHl).trans g1
            have g2 := (hG.cell (p := ⟨Hb, 2, none⟩) hHl).trans g2
            have g3 := (hG.cell (p := ⟨Hb, 3, none⟩) hHl).trans g3
            have hHl := Nat.lt_of_lt_of_le hHl hG.size
            clear hG h88
            cases pr with
            | true =>
              have HN : Hid (∃ fs', rFR w7 w1.heap.size u7 fs' ∧ fs' ++ allE ws l (l.drop (i + 1)) = G ∧ KBs w1 R (.slice (some ad) N c) b t w7 ∧ (∀ k, u7.ownBlock = some k → k ≠ R)) := by
                obtain ⟨e1, hfs, e3, e4, e5⟩ := HE2.out
                have h := HE.out.2.1
                rw [if_pos rfl, List.append_nil] at h
                exact Lib.hid ⟨fs2, e1.below H7.out, by rw [hfs]; exact h, e5.go H7.out, fun k hk => (e4 k hk).2⟩
              clear g0 g1 g2 g3 hcp
              go_wp2_with fail
              go_roundw
              case rel => first | exact ⟨i + 1, by go_num, by omega, HN⟩ | ((repeat apply Exists.intro); refine ⟨?_, rfl⟩; exact ⟨i + 1, by go_num, by omega, HN⟩)
              case measure => simp [Go.RowKit.intOf]; omega
            | false =>
              obtain ⟨la, hla⟩ : ∃ la, la = a + sz - 1 := ⟨_, rfl⟩
              have la2 : (a : Int) + (sz : Int) - 1 = (la : Int) := by omega
              have HLa := Lib.hid hla
              go_wp2_with fail
              refine rs16 _ _ _ Hb i a M sz la adp (some adp) pc (P : Int) (nb : Int) u7 hHl g0 g1 g2 g3 rfl hcl hcp i0 i1 la2 aI s2 a0 s1 HSz rfl ?_ ?_ ?_ ?_ ?_
              · rfl
              · rfl
              · rfl
              · rfl
              intro vals8 w8 hG8 h89 h99
              obtain ⟨q8, h99, hq8, hb8⟩ := h99
              unfold IsV at h89
              simp only [putD, Act.put, List.setIfInBounds_toArray, List.set_cons_zero, List.set_cons_succ, h89, h99]
              have HO := Lib.hid ((HE2.out.1.below H7.out).below hG8)
              have H8 := Lib.hid hG8
              have HLn := Lib.hid (show fs2.length + [(la, (⟨#[112, 97, 100]⟩ : ByteArray))].length ≤ 100000 by have := HE.out.2.2.2.2; have := HE2.out.2.1; rw [this]; simp; omega)
              refine rwp_appF rfl (.tmp 89) (.tmp 99) rfl rfl HO.out (some ⟨q8, 0, none⟩) 1 1 [(la, ⟨#[112, 97, 100]⟩)] rfl rfl (rrdF_bk la _ hb8) HLn.out (by have := HE2.out.2.2.2.2.b.size; have := H7.out.size; have := hG8.size; omega) ?_
              intro v9 w9 ho9 hb9 hg9 hv9
              refine ⟨rfl, trivial, ?_⟩
              have HN : Hid (∃ fs', rFR w9 w1.heap.size v9 fs' ∧ fs' ++ allE ws l (l.drop (i + 1)) = G ∧ KBs w1 R (.slice (some ad) N c) b t w9 ∧ (∀ k, v9.ownBlock = some k → k ≠ R)) := by
                obtain ⟨e1, hfs, e3, e4, e5⟩ := HE2.out
                have h := HE.out.2.1
                rw [if_neg (by decide), ← HLa.out] at h
                have h7 := e5.go H7.out
                have h8 := h7.go hG8
                exact Lib.hid ⟨fs2 ++ [(la, ⟨#[112, 97, 100]⟩)], ho9, by rw [hfs]; exact h, h8.app hg9 (fun k2 hk2 => ⟨(e1.lt k2 hk2).1, (e4 k2 hk2).2⟩), fun k2 hk2 => by
                  rcases hv9 with hv | hv
                  · rw [hv] at hk2; exact (e4 k2 hk2).2
                  · rw [hv] at hk2
                    injection hk2 with hk2
                    have := h8.k.lt
                    omega⟩
              clear ho9 hb9 hg9 hv9 hG8 h89 h99 hb8 hq8 g0 g1 g2 g3 hcp
              go_wp2_with fail
              go_roundw
              case rel => first | exact ⟨i + 1, by go_num, by omega, HN⟩ | ((repeat apply Exists.intro); refine ⟨?_, rfl⟩; exact ⟨i + 1, by go_num, by omega, HN⟩)
              case measure => simp [Go.RowKit.intOf]; omega
      · have i1 : ¬ (i : Int) < (M : Int) := by omega
        have hfs : fs' = G := by
          have hMl : M = l.length := HX.out.2.2.2.2.2.1
          rw [← e2, List.drop_of_length_le (by omega)]
          exact (List.append_nil _).symm
        have HE := Lib.hid (And.intro e1 (And.intro hfs e3))
        clear e1 e2 e3 e4R hS hfs
        go_wp2_with fail
        go_ret
        obtain ⟨e1, hfs, e3⟩ := HE.out
        have hb := H1.out.2.trans (e3.b.mono H1.out.2.size)
        refine ⟨u7, rfl, ?_, hb⟩
        rw [← hfs]
        exact ⟨e1.1, e1.2.imp id fun ⟨q, cap, cur, h1, h2, h3⟩ => ⟨q, cap, cur, h1, Nat.le_trans H1.out.2.size h2, h3⟩⟩
end Go.Proofs.Ytaminpfgkegibaa
/- The document's Image, of any words. Conditions: lengths. -/
namespace Go.Proofs.Ytaminpfgkegibaa
set_option linter.unusedVariables false
set_option linter.unusedSimpArgs false
open Go.RowKit Go.Maps
set_option maxHeartbeats 8000000
set_option maxRecDepth 100000
theorem field_div48 (x : BitVec 64) : U64 (fieldB x 48 16) = U64 x / 281474976710656 := by
  have e : lowB 16 = 65535#64 := by decide
  unfold fieldB
  rw [if_pos (by decide), e]
  show U64 (x >>> 48 &&& 65535#64) = _
  have h : (x >>> 48 &&& 65535#64).toNat = x.toNat / 281474976710656 := by
    rw [BitVec.toNat_and, BitVec.toNat_ushiftRight]
    show (x.toNat >>> 48) &&& (2 ^ 16 - 1) = _
    rw [Nat.and_two_pow_sub_one_eq_mod, Nat.shiftRight_eq_div_pow]
    have := x.isLt
    omega
  unfold U64
  rw [h]
  rfl
/-- What stands besides what is told. -/
structure RIm (w : World) (pv : Value) (p : List Nat) (W : World) (o : Value) (fs : List (Nat × ByteArray)) : Prop where
  fr : rFR W w.heap.size o fs
  b : Below w.heap.size w W
  pp : Ow iN 3 W w.heap.size pv p
  dj : ∀ k, o.ownBlock = some k → pv.ownBlock ≠ some k
section
variable {w W W' : World} {pv o v' : Value} {p : List Nat} {fs fs' : List (Nat × ByteArray)}
theorem RIm.go (h : RIm w pv p W o fs) (hb : Below W.heap.size W W') : RIm w pv p W' o fs := ⟨h.fr.below hb, h.b.trans (hb.mono h.b.size), (Kept.of_below hb (fun _ => False)).ow h.pp (fun _ _ f => f), h.dj⟩
theorem RIm.app (h : RIm w pv p W o fs) {obj : Obj} (ho : rFR W' w.heap.size v' fs') (hb : Below w.heap.size (W.alloc obj) W') (hg : (W.alloc obj).grownBy W' o.ownBlock) (hv : v'.ownBlock = o.ownBlock ∨ v'.ownBlock = some (W.alloc obj).heap.size) : RIm w pv p W' v' fs' := by
  have h1 := h.go (Gw.alloc W obj)
  refine ⟨ho, h1.b.trans hb, (Kept.grown hg).ow h1.pp (fun k hk e => h1.dj k e hk), fun k hk => ?_⟩
  rcases hv with e | e
  · rw [e] at hk; exact h1.dj k hk
  · rw [e] at hk
    injection hk with hk
    intro hp
    have := (World.ownsRow.lt h1.pp k hp).2
    omega
end
theorem ow_more {α : Type} {f : α → Value} {E : TypeId} {w : World} {b0 b1 : Nat} {v : Value} {xs : List α} (h : Ow f E w b1 v xs) (hb : b0 ≤ b1) : Ow f E w b0 v xs := by
  rcases h with ⟨h1, h2 | ⟨g, cap, cur, a, b, c⟩⟩
  · exact ⟨h1, .inl h2⟩
  · exact ⟨h1, .inr ⟨g, cap, cur, a, Nat.le_trans hb b, c⟩⟩
def RiP (l : List (Nat × ByteArray)) (w : World) (r : Ending) (w' : World) : Prop := ∃ lv, r = .returned lv ∧ rFR w' w.heap.size lv l ∧ Below w.heap.size w w'
theorem rimageS_c (w : World) (A : Option Addr) (c : Nat) : Calls Try.prog 11 #[.slice A 0 c] w (RiP [(0, magicS), (1, sizeS)] w) := by
  go_enter Try.func11, Try.ntmps11
  go_wp2_with (at_builtin; first | (refine rwp_appF rfl (.tmp 21) (.tmp 23) rfl rfl (rFR.nil _ w.heap.size) (some ⟨w.heap.size, 0, none⟩) 1 1 [(0, magicS)] rfl rfl (rrdF_new w 0 magicS) (by decide) (Gw.alloc w _).size ?_; intro v1 w1 ho1 hb1 hg1 hj1; have H1 := Lib.hid (And.intro ho1 ((Gw.alloc w _).trans hb1)); clear hb1 hg1 hj1 ho1) | (refine rwp_appF rfl (.tmp 28) (.tmp 30) rfl rfl (H1.out.1.below (Gw.alloc w1 _)) (some ⟨w1.heap.size, 0, none⟩) 1 1 [(1, sizeS)] rfl rfl (rrdF_new w1 1 sizeS) (by decide) (Nat.le_trans H1.out.2.size (Gw.alloc w1 _).size) ?_; intro v3 w3 ho3 hb3 hg3 hj3; have H3 := Lib.hid (And.intro ho3 ((H1.out.2.trans ((Gw.alloc w1 _).mono H1.out.2.size)).trans hb3)); clear ho3 hb3 hg3 hj3))
  go_ret
  exact ⟨v3, rfl, H3.out.1, H3.out.2⟩
theorem rimageG_c (w : World) (A : Option Addr) (c : Nat) (ws : List (BitVec 64)) (hr : Rd u64v w w.heap.size A ws) (h8 : ws.length ≤ 8192) (hl : (imgF ws).length ≤ 5000) : Calls Try.prog 11 #[.slice A ws.length c] w (RiP (imgF ws) w) := by
  by_cases h0 : ws.length = 0
  · have e : imgF ws = [(0, magicS), (1, sizeS)] := by
      unfold imgF magF szOk
      rw [if_pos (.inl h0), if_neg (by rw [decide_eq_true_eq]; omega)]
      rfl
    rw [e, h0]
    exact rimageS_c w A c
  · obtain ⟨ad, rfl, hadl, ga⟩ := hr 0 (by omega)
    have e0 : ws.getD 0 0#64 = ws[0] := by rw [List.getD_eq_getElem?_getD, List.getElem?_eq_getElem (by omega)]; rfl
    have g0 : w.cell? ad = some (.int .u64 (U64 ws[0])) := ga
    rw [← e0] at g0
    clear ga
    obtain ⟨x0, hx0⟩ : ∃ x, x = ws.getD 0 0#64 := ⟨_, rfl⟩
    rw [← hx0] at g0
    obtain ⟨x1, hx1⟩ : ∃ x, x = ws.getD 1 0#64 := ⟨_, rfl⟩
    obtain ⟨E, hE⟩ : ∃ E, E = RiP (imgF ws) w := ⟨_, rfl⟩
    rw [← hE]
    have HE := Lib.hid hE
    obtain ⟨ok, hok⟩ : ∃ ok, ok = szOk ws := ⟨_, rfl⟩
    obtain ⟨R, hR⟩ : ∃ R, R = nRt ws := ⟨_, rfl⟩
    obtain ⟨n, hn⟩ : ∃ n, n = ws.length := ⟨_, rfl⟩
    have hR6 : R < 65536 := by rw [hR]; unfold nRt; exact Nat.mod_lt _ (by decide)
    have hG1 : 2 ≤ n → w.cell? ⟨ad.block, ad.off + 1, none⟩ = some (.int .u64 (U64 x1)) := fun h2 => by
      obtain ⟨ad', had', hl', g1⟩ := hr 1 (by omega)
      injection had' with had'
      subst had'
      have e1 : ws.getD 1 0#64 = ws[1] := by rw [List.getD_eq_getElem?_getD, List.getElem?_eq_getElem (by omega)]; rfl
      rw [hx1, e1]
      exact g1
    have HG1 := Lib.hid hG1
    have HSp := Lib.hid (fun W (b : Below w.heap.size w W) => fun (hb : 2 + 5 * R ≤ n) (hl2 : (badF (foundN ws n (n + 1) (2 + 5 * R)).2 ++ allE ws (foundN ws n (n + 1) (2 + 5 * R)).1 (foundN ws n (n + 1) (2 + 5 * R)).1).length ≤ 5000) => rspaceG_c W (some ad) c ws (2 + 5 * R) n (foundN ws n (n + 1) (2 + 5 * R)).1 (foundN ws n (n + 1) (2 + 5 * R)).2 ((hr.below b).more b.size) hb (by omega) h8 rfl hl2)
    have HFd := Lib.hid (fun W (b : Below w.heap.size w W) => fun (hb : 2 + 5 * R ≤ n) => rfoundG_c W (some ad) c ws (2 + 5 * R) n (foundN ws n (n + 1) (2 + 5 * R)) ((hr.below b).more b.size) hb (by omega) h8 rfl)
    have HNm := Lib.hid (fun W (b : Below w.heap.size w W) (a : Nat) (ha : a + 4 ≤ ws.length) => rname_c W (some ad) c ws ((hr.below b).more b.size) h8 a ha)
    rw [← hn] at HSp HFd HNm ⊢
    have HRd := Lib.hid hr
    obtain ⟨bb, hbb⟩ : ∃ bb, bb = 2 + 5 * R := ⟨_, rfl⟩
    rw [← hbb] at HSp HFd
    obtain ⟨mf, hmf⟩ : ∃ mf, mf = magF ws := ⟨_, rfl⟩
    have hml : mf.length ≤ 1 := by rw [hmf]; unfold magF; split <;> simp
    have himg : imgF ws = mf ++ (if ok = true then insF ws R else [(1, sizeS)]) := by unfold imgF; rw [hok, hR, hmf]
    have hoks : ok = decide (2 ≤ n ∧ U64 x1 / 281474976710656 = 0 ∧ U64 (fieldB x1 16 32) = (n : Int) ∧ R ≤ 64 ∧ bb ≤ n) := by
      rw [hok, hn, hR, hbb, hx1, ← field_div48, hR]
      rfl
    have h016 : U64 (fieldB x1 0 16) = (R : Int) := by rw [field_nR, hR, hx1]; rfl
    have HX := Lib.hid (And.intro hoks (And.intro hR (And.intro hn (And.intro hbb (And.intro h8 (And.intro himg (And.intro hl hml)))))))
    have HF0 := Lib.hid h016
    have n1 : ¬ (n : Int) = 0 := by omega
    have nI : (n : Int) ≤ 8192 := by omega
    have n3 : ¬ (8192 : Int) < (n : Int) := by omega
    have n2 : (1 : Int) ≤ (n : Int) := by omega
    have r2 : (R : Int) ≤ 65535 := by omega
    have r3 : (0 : Int) ≤ (R : Int) := by omega
    by_cases hmg : x0 = 1296125772#64
    · have hme : mf = [] := by rw [hmf]; unfold magF; rw [if_neg (by rw [← hx0]; intro h; rcases h with h | h; exact h0 h; exact h hmg)]
      have HMe := Lib.hid hme
      subst hmg
      replace g0 : w.cell? ad = some (.int .u64 1296125772) := g0
      have H0 := Lib.hid (show rFR w w.heap.size (.slice none 0 0) mf ∧ Below w.heap.size w w from ⟨by rw [hme]; exact rFR.nil _ _, Below.refl _ _⟩)
      have HL := Lib.hid hadl
      clear hE hr h8 hl hok hR hn hmf hml himg hx0 hx1 e0 h0 hR6 hme hadl hoks h016 hG1
      by_cases h2 : n < 2
      · have HN := Lib.hid (show ok = false from by rw [HX.out.1]; exact decide_eq_false (fun h => by omega))
        have k2 : (n : Int) < 2 := by omega
        clear hbb h2
        go_enter Try.func11, Try.ntmps11
        go_wp2_with (at_builtin; refine rwp_appF rfl (.tmp 28) (.tmp 30) rfl rfl (H0.out.1.below (Gw.alloc w _)) (some ⟨w.heap.size, 0, none⟩) 1 1 [(1, sizeS)] rfl rfl (rrdF_new w 1 sizeS) (by have := HX.out.2.2.2.2.2.2.2; simp; omega) (Nat.le_trans H0.out.2.size (Gw.alloc w _).size) ?_; intro v3 w3 ho3 hb3 hg3 hj3; have H3 := Lib.hid (And.intro ho3 ((H0.out.2.trans ((Gw.alloc w _).mono H0.out.2.size)).trans hb3)); clear ho3 hb3 hg3 hj3)
        rw [HE.out]
        exact ⟨v3, rfl, by rw [HX.out.2.2.2.2.2.1, if_neg (by rw [HN.out]; decide)]; exact H3.out.1, H3.out.2⟩
      · replace h2 : 2 ≤ n := by omega
        have k2 : ¬ (n : Int) < 2 := by omega
        have k4 : (1 : Int) < (n : Int) := by omega
        have hq := HL.out
        have g1 := HG1.out h2
        clear h2
        go_enter Try.func11, Try.ntmps11
        go_wp2_with fail
        refine Calls.mono (of_ansk (rfield_c x1 0 16 (by decide) (by decide) w)) ?_
        rintro r w1 ⟨u, rfl, b1, hu⟩
        unfold IsV at hu
        subst hu
        rw [HF0.out]
        have H1 := Lib.hid (show rFR w1 w.heap.size (.slice none 0 0) mf ∧ Below w.heap.size w w1 from ⟨H0.out.1.below b1, H0.out.2.trans (b1.mono H0.out.2.size)⟩)
        replace g1 := (b1.cell (p := ⟨ad.block, ad.off + 1, none⟩) hq).trans g1
        replace hq := Nat.lt_of_lt_of_le hq b1.size
        clear b1 H0
        obtain ⟨sh, hsh⟩ : ∃ s, s = U64 x1 / 281474976710656 := ⟨_, rfl⟩
        by_cases c1 : sh = 0
        · have hsh0 : U64 x1 / 281474976710656 = 0 := by rw [← hsh]; exact c1
          go_wp2_with fail
          refine Calls.mono (of_ansk (rfield_c x1 16 32 (by decide) (by decide) w1)) ?_
          rintro r w2 ⟨u, rfl, b2, hu⟩
          unfold IsV at hu
          subst hu
          have H2 := Lib.hid (show rFR w2 w.heap.size (.slice none 0 0) mf ∧ Below w.heap.size w w2 from ⟨H1.out.1.below b2, H1.out.2.trans (b2.mono H1.out.2.size)⟩)
          replace hq := Nat.lt_of_lt_of_le hq b2.size
          clear b2 H1 g1
          obtain ⟨a16, ha16⟩ : ∃ a, a = U64 (fieldB x1 16 32) := ⟨_, rfl⟩
          rw [← ha16]
          by_cases c2 : a16 = (n : Int)
          · by_cases c3 : R ≤ 64
            · have k3 : ¬ (64 : Int) < (R : Int) := by omega
              by_cases c4 : bb ≤ n
              · have HOk := Lib.hid (show ok = true from by rw [HX.out.1]; exact decide_eq_true ⟨by omega, hsh0, by rw [← ha16]; exact c2, c3, c4⟩)
                have k4 : ¬ (n : Int) < 2 + 5 * (R : Int) := by omega
                have kbb : 2 + 5 * (R : Int) = (bb : Int) := by omega
                subst c2
                have c3H := Lib.hid c3
                have c4H := Lib.hid c4
                clear hsh hsh0 ha16 c1 c3 c4 hbb
                have himg : imgF ws = mf ++ insF ws R := by rw [HX.out.2.2.2.2.2.1, if_pos HOk.out]
                obtain ⟨F, hF⟩ : ∃ F, F = foundN ws n (n + 1) bb := ⟨_, rfl⟩
                obtain ⟨G, hG⟩ : ∃ G, G = imgF ws := ⟨_, rfl⟩
                have hins : G = mf ++ ((badF F.2 ++ allE ws F.1 F.1) ++ rootF ws F.1 R 0 ⟨#[]⟩) := by rw [hG, himg, hF, HX.out.2.2.2.1, HX.out.2.2.1]; rfl
                have hGl : G.length ≤ 5000 := by rw [hG]; exact HX.out.2.2.2.2.2.2.1
                have hpl : F.1.length ≤ 8192 := by
                  have h2 := found_len ws n (n + 1) bb
                  rw [← hF] at h2
                  have := HX.out.2.2.2.2.1
                  have := HX.out.2.2.1
                  omega
                have hpg : ∀ a ∈ F.1, a < 1073741824 := fun a ha => by
                  obtain ⟨_, h2, _⟩ := found_good ws n (n + 1) bb a (by rw [← hF]; exact ha)
                  omega
                rw [← hF] at HSp HFd
                obtain ⟨p, hp⟩ : ∃ p, p = F.1 := ⟨_, rfl⟩
                obtain ⟨S, hS⟩ : ∃ S, S = badF F.2 ++ allE ws F.1 F.1 := ⟨_, rfl⟩
                rw [← hS, ← hp] at hins
                rw [← hp] at hpl hpg HFd
                rw [← hp] at hS
                rw [← hp, ← hS] at HSp
                have HG := Lib.hid (And.intro hG (And.intro hins (And.intro hGl (And.intro hpl hpg))))
                have hSl : S.length ≤ 5000 := by have h := hGl; rw [hins, List.length_append, List.length_append] at h; omega
                have HSl := Lib.hid hSl
                clear himg hG hins hGl hpl hpg hF hp hS hSl
                have r1 : (R : Int) ≤ 64 := by have := c3H.out; omega
                have bI : (bb : Int) ≤ 8192 := by have := c4H.out; omega
                go_wp2_with fail
                refine Calls.mono (HSp.out w2 H2.out.2 c4H.out HSl.out) ?_
                rintro r w3 ⟨lv, rfl, hlv, b3⟩
                have H3 := Lib.hid (show rFR w3 w.heap.size (.slice none 0 0) mf ∧ Below w.heap.size w w3 ∧ rFR w3 w2.heap.size lv S from ⟨H2.out.1.below b3, H2.out.2.trans (b3.mono H2.out.2.size), hlv⟩)
                obtain ⟨sA, sC, e1, _⟩ := hlv.slice_
                obtain ⟨sN, hsN⟩ : ∃ sN, sN = S.length := ⟨_, rfl⟩
                rw [← hsN] at e1
                subst e1
                have HsN := Lib.hid hsN
                clear hlv b3 H2 HSp hsN
                go_wp2_with (at_builtin; refine rwp_appF rfl (.tmp 73) (.tmp 80) rfl rfl H3.out.1 sA sN sC S rfl HsN.out H3.out.2.2.rdf (by have := HX.out.2.2.2.2.2.2.2; have := HSl.out; omega) H3.out.2.1.size ?_; intro v4 w4 ho4 hb4 hg4 hj4; have H4 := Lib.hid (show rFR w4 w.heap.size v4 (mf ++ S) ∧ Below w.heap.size w w4 from ⟨ho4, H3.out.2.1.trans hb4⟩); obtain ⟨oA4, oN4, oC4, e4⟩ := rfr_slice ho4; subst e4; clear ho4 hb4 hg4 hj4 H3)
                refine Calls.mono (HFd.out w4 H4.out.2 c4H.out) ?_
                rintro r w5 ⟨pA, pc, rfl, hp5, b5⟩
                obtain ⟨M, hM⟩ : ∃ M, M = p.length := ⟨_, rfl⟩
                rw [← hM] at hp5 ⊢
                have HS0 : Hid (∃ fs', RIm w (.slice pA M pc) p w5 (.slice oA4 oN4 oC4) fs' ∧ fs' ++ rootF ws p (R - 0) 0 ⟨#[]⟩ = G) := Lib.hid ⟨mf ++ S, ⟨H4.out.1.below b5, H4.out.2.trans (b5.mono H4.out.2.size), ow_more hp5 H4.out.2.size, fun k hk e => by
                  have h1 := (H4.out.1.lt k hk).2
                  have h2 := (World.ownsRow.lt hp5 k e).1
                  omega⟩, by rw [HG.out.2.1, List.append_assoc]; rfl⟩
                have HM := Lib.hid hM
                clear hp5 b5 hM H4 HFd
                go_wp2_with fail
                go_loopw [3, 7, 8] (fun o s x W => ∃ (i : Nat) (ab : ByteArray), x = .int .i64 i ∧ s = .string ab ∧ i ≤ R ∧ Hid (∃ fs', RIm w (.slice pA M pc) p W o fs' ∧ fs' ++ rootF ws p (R - i) i ab = G)) (fun _ _ x _ => R - (Go.RowKit.intOf x).toNat)
                case atStart => exact ⟨0, ⟨#[]⟩, rfl, rfl, Nat.zero_le _, HS0⟩
                case round =>
                  obtain ⟨i, ab, rfl, rfl, hi, hS⟩ := hrel
                  clear HS0
                  obtain ⟨fs', T0, hG⟩ := hS.out
                  have p0 : (0 : Int) ≤ (i : Int) := by omega
                  by_cases hlt : i < R
                  · have p1 : (i : Int) < (R : Int) := by omega
                    obtain ⟨q, hq⟩ : ∃ q, q = 2 + 5 * i := ⟨_, rfl⟩
                    obtain ⟨q4, hq4⟩ : ∃ q4, q4 = q + 4 := ⟨_, rfl⟩
                    have hql : q4 < ws.length := by have h1 := c4H.out; have h2 := HX.out.2.2.2.1; have h3 := HX.out.2.2.1; omega
                    have qN : (q4 : Int) < (n : Int) := by have h3 := HX.out.2.2.1; omega
                    have qI : (q : Int) + 4 = (q4 : Int) := by omega
                    have qJ : (q4 : Int) ≤ 8192 := by omega
                    have qK : (0 : Int) ≤ (q : Int) := by omega
                    have qL : 2 + 5 * (i : Int) = (q : Int) := by omega
                    have qM : (0 : Int) ≤ (q4 : Int) := by omega
                    obtain ⟨j, hj⟩ : ∃ j, R - i = j + 1 := ⟨R - i - 1, by omega⟩
                    have hj2 : R - (i + 1) = j := by omega
                    obtain ⟨k, hk⟩ : ∃ k, k = bytesM ws (8 * q) 32 := ⟨_, rfl⟩
                    have hkA : nmAt ws i = k := by rw [hk, hq]; rfl
                    obtain ⟨nm, hnm⟩ : ∃ nm, nm = strB (cutN k) := ⟨_, rfl⟩
                    obtain ⟨okn, hokn⟩ : ∃ o, o = nmOk k := ⟨_, rfl⟩
                    obtain ⟨le, hle⟩ : ∃ le, le = lessS nm ab := ⟨_, rfl⟩
                    obtain ⟨ld, hld⟩ : ∃ ld, ld = leadB ws p q4 := ⟨_, rfl⟩
                    rw [hj] at hG
                    have hG2 : fs' ++ ((if okn = true ∧ le = false then [] else [(q, nameS)]) ++ (if ld = true then [] else [(q4, rootS)]) ++ rootF ws p j (i + 1) (if okn = true then nm else ab)) = G := by
                      rw [hle, hld, hokn, hnm, hq4, hq, ← hkA]
                      exact hG
                    have hfl : fs'.length ≤ 5000 := by
                      have h1 := HG.out.2.2.1
                      rw [← hG2, List.length_append] at h1
                      omega
                    have HE2 := Lib.hid (And.intro hG2 (And.intro hj2 hfl))
                    have hy2 : (Op.bytesLess nm.toList ab.toList || nm.toList == ab.toList) = le := hle.symm
                    have HNq := HNm.out wr T0.b q (by have h3 := HX.out.2.2.1; omega)
                    rw [← hk] at HNq
                    unfold NameR at HNq
                    rw [← hokn, ← hnm] at HNq
                    replace HNq := Lib.hid HNq
                    obtain ⟨ad2, had2, hadl2, hcw2⟩ := HRd.out q4 hql
                    injection had2 with had2
                    subst had2
                    obtain ⟨y, hy⟩ : ∃ y, y = ws[q4] := ⟨_, rfl⟩
                    rw [← hy] at hcw2
                    replace hcw2 : w.cell? (ad.add q4) = some (.int .u64 (U64 y)) := hcw2
                    have hye : ws.getD q4 0#64 = y := by rw [hy, List.getD_eq_getElem?_getD, List.getElem?_eq_getElem hql]; rfl
                    have hld2 : decide (y.toNat = 0 ∨ (1 ≤ y.toNat ∧ y.toNat - 1 ∈ p)) = ld := by rw [hld]; unfold leadB; rw [hye]
                    have HPt := Lib.hid (fun W (o : Value) (fs : List (Nat × ByteArray)) (h : RIm w (.slice pA M pc) p W o fs) => show Calls Try.prog 32 #[.slice pA M pc, .int .u64 (U64 y)] W (RetP (.bool ld) W) from by
                      have h1 := h.pp
                      rw [HM.out] at h1 ⊢
                      rw [← hld2]
                      exact points_c W pA pc p h1.rd (by have := HG.out.2.2.2.1; omega) HG.out.2.2.2.2 y)
                    obtain ⟨yv, hyv⟩ : ∃ yv, yv = U64 y := ⟨_, rfl⟩
                    rw [← hyv] at HPt hcw2
                    have HC := Lib.hid (fun W (hb : Below w.heap.size w W) => show (ad.add q4).block < W.heap.size ∧ W.cell? (ad.add q4) = some (.int .u64 yv) from ⟨by rw [add_block]; exact Nat.lt_of_lt_of_le hadl2 hb.size, (hb.cell (p := ad.add q4) (by rw [add_block]; exact hadl2)).trans hcw2⟩)
                    have H0 := Lib.hid T0
                    clear hS T0 hG hG2 hj hj2 hq hq4 hql hk hkA hnm hokn hle hld hy hye hld2 hfl hyv hcw2 hadl2
                    go_wp2_with fail
                    refine Calls.mono HNq.out ?_
                    rintro r w6 ⟨st, rfl, hst, b6⟩
                    have H6 := Lib.hid (H0.out.go b6)
                    obtain ⟨hcl, hcy⟩ := HC.out w6 H6.out.b
                    clear b6 H0 HNq
                    cases okn with
                    | false =>
                      clear hy2 hst
                      clear hcl hcy
                      go_wp2_with (at_builtin; refine rwp_appF rfl (.tmp 113) (.tmp 116) rfl rfl (H6.out.fr.below (Gw.alloc w6 _)) (some ⟨w6.heap.size, 0, none⟩) 1 1 [(q, nameS)] rfl rfl (rrdF_new w6 _ _) (by have := HE2.out.2.2; simp; omega) (Nat.le_trans H6.out.b.size (Gw.alloc w6 _).size) ?_; intro vw7 w7 ho hb hg hv; have H7 := Lib.hid (H6.out.app ho hb hg hv); clear ho hb hg hv; obtain ⟨hcl7, hcy7⟩ := HC.out w7 H7.out.b)
                      refine Calls.mono (HPt.out w7 _ _ H7.out) ?_
                      rintro r w8 ⟨rfl, b8⟩
                      have H8 := Lib.hid (H7.out.go b8)
                      clear b8
                      cases ld with
                      | false =>
                        clear hcl7 hcy7 H7
                        go_wp2_with (at_builtin; refine rwp_appF rfl (.tmp 128) (.tmp 132) rfl rfl (H8.out.fr.below (Gw.alloc w8 _)) (some ⟨w8.heap.size, 0, none⟩) 1 1 [(q4, rootS)] rfl rfl (rrdF_new w8 _ _) (by have := HE2.out.2.2; simp; omega) (Nat.le_trans H8.out.b.size (Gw.alloc w8 _).size) ?_; intro vw9 w9 ho hb hg hv; have H9 := Lib.hid (H8.out.app ho hb hg hv); clear ho hb hg hv)
                        have HN : Hid (∃ fs', RIm w (.slice pA M pc) p w9 vw9 fs' ∧ fs' ++ rootF ws p (R - (i + 1)) (i + 1) ab = G) := Lib.hid ⟨(fs' ++ [(q, nameS)]) ++ [(q4, rootS)], H9.out, by have h1 := HE2.out.1; rw [HE2.out.2.1]; simpa using h1⟩
                        go_roundw
                        case rel => first | exact ⟨i + 1, ab, by go_num, rfl, by omega, HN⟩ | ((repeat apply Exists.intro); refine ⟨?_, rfl⟩; exact ⟨i + 1, ab, by go_num, rfl, by omega, HN⟩)
                        case measure => simp [Go.RowKit.intOf]; omega
                      | true =>
                        have HN : Hid (∃ fs', RIm w (.slice pA M pc) p w8 vw7 fs' ∧ fs' ++ rootF ws p (R - (i + 1)) (i + 1) ab = G) := Lib.hid ⟨(fs' ++ [(q, nameS)]), H8.out, by have h1 := HE2.out.1; rw [HE2.out.2.1]; simpa using h1⟩
                        clear hcl7 hcy7 H7
                        go_wp2_with fail
                        go_roundw
                        case rel => first | exact ⟨i + 1, ab, by go_num, rfl, by omega, HN⟩ | ((repeat apply Exists.intro); refine ⟨?_, rfl⟩; exact ⟨i + 1, ab, by go_num, rfl, by omega, HN⟩)
                        case measure => simp [Go.RowKit.intOf]; omega
                    | true =>
                      have hs := hst rfl
                      subst hs
                      clear hst
                      cases le with
                      | true =>
                        clear hcl hcy
                        go_wp2_with (at_builtin; refine rwp_appF rfl (.tmp 113) (.tmp 116) rfl rfl (H6.out.fr.below (Gw.alloc w6 _)) (some ⟨w6.heap.size, 0, none⟩) 1 1 [(q, nameS)] rfl rfl (rrdF_new w6 _ _) (by have := HE2.out.2.2; simp; omega) (Nat.le_trans H6.out.b.size (Gw.alloc w6 _).size) ?_; intro vw7 w7 ho hb hg hv; have H7 := Lib.hid (H6.out.app ho hb hg hv); clear ho hb hg hv; obtain ⟨hcl7, hcy7⟩ := HC.out w7 H7.out.b)
                        refine Calls.mono (HPt.out w7 _ _ H7.out) ?_
                        rintro r w8 ⟨rfl, b8⟩
                        have H8 := Lib.hid (H7.out.go b8)
                        clear b8
                        cases ld with
                        | false =>
                          clear hcl7 hcy7 H7
                          go_wp2_with (at_builtin; refine rwp_appF rfl (.tmp 128) (.tmp 132) rfl rfl (H8.out.fr.below (Gw.alloc w8 _)) (some ⟨w8.heap.size, 0, none⟩) 1 1 [(q4, rootS)] rfl rfl (rrdF_new w8 _ _) (by have := HE2.out.2.2; simp; omega) (Nat.le_trans H8.out.b.size (Gw.alloc w8 _).size) ?_; intro vw9 w9 ho hb hg hv; have H9 := Lib.hid (H8.out.app ho hb hg hv); clear ho hb hg hv)
                          have HN : Hid (∃ fs', RIm w (.slice pA M pc) p w9 vw9 fs' ∧ fs' ++ rootF ws p (R - (i + 1)) (i + 1) st = G) := Lib.hid ⟨(fs' ++ [(q, nameS)]) ++ [(q4, rootS)], H9.out, by have h1 := HE2.out.1; rw [HE2.out.2.1]; simpa using h1⟩
                          go_roundw
                          case rel => first | exact ⟨i + 1, st, by go_num, rfl, by omega, HN⟩ | ((repeat apply Exists.intro); refine ⟨?_, rfl⟩; exact ⟨i + 1, st, by go_num, rfl, by omega, HN⟩)
                          case measure => simp [Go.RowKit.intOf]; omega
                        | true =>
                          have HN : Hid (∃ fs', RIm w (.slice pA M pc) p w8 vw7 fs' ∧ fs' ++ rootF ws p (R - (i + 1)) (i + 1) st = G) := Lib.hid ⟨(fs' ++ [(q, nameS)]), H8.out, by have h1 := HE2.out.1; rw [HE2.out.2.1]; simpa using h1⟩
                          clear hcl7 hcy7 H7
                          go_wp2_with fail
                          go_roundw
                          case rel => first | exact ⟨i + 1, st, by go_num, rfl, by omega, HN⟩ | ((repeat apply Exists.intro); refine ⟨?_, rfl⟩; exact ⟨i + 1, st, by go_num, rfl, by omega, HN⟩)
                          case measure => simp [Go.RowKit.intOf]; omega
                      | false =>
                        go_wp2_with fail
                        refine Calls.mono (HPt.out w6 _ _ H6.out) ?_
                        rintro r w8 ⟨rfl, b8⟩
                        have H8 := Lib.hid (H6.out.go b8)
                        clear b8
                        cases ld with
                        | false =>
                          clear hcl hcy H6
                          go_wp2_with (at_builtin; refine rwp_appF rfl (.tmp 128) (.tmp 132) rfl rfl (H8.out.fr.below (Gw.alloc w8 _)) (some ⟨w8.heap.size, 0, none⟩) 1 1 [(q4, rootS)] rfl rfl (rrdF_new w8 _ _) (by have := HE2.out.2.2; simp; omega) (Nat.le_trans H8.out.b.size (Gw.alloc w8 _).size) ?_; intro vw9 w9 ho hb hg hv; have H9 := Lib.hid (H8.out.app ho hb hg hv); clear ho hb hg hv)
                          have HN : Hid (∃ fs', RIm w (.slice pA M pc) p w9 vw9 fs' ∧ fs' ++ rootF ws p (R - (i + 1)) (i + 1) st = G) := Lib.hid ⟨fs' ++ [(q4, rootS)], H9.out, by have h1 := HE2.out.1; rw [HE2.out.2.1]; simpa using h1⟩
                          go_roundw
                          case rel => first | exact ⟨i + 1, st, by go_num, rfl, by omega, HN⟩ | ((repeat apply Exists.intro); refine ⟨?_, rfl⟩; exact ⟨i + 1, st, by go_num, rfl, by omega, HN⟩)
                          case measure => simp [Go.RowKit.intOf]; omega
                        | true =>
                          have HN : Hid (∃ fs', RIm w (.slice pA M pc) p w8 u3 fs' ∧ fs' ++ rootF ws p (R - (i + 1)) (i + 1) st = G) := Lib.hid ⟨fs', H8.out, by have h1 := HE2.out.1; rw [HE2.out.2.1]; simpa using h1⟩
                          clear hcl hcy H6
                          go_wp2_with fail
                          go_roundw
                          case rel => first | exact ⟨i + 1, st, by go_num, rfl, by omega, HN⟩ | ((repeat apply Exists.intro); refine ⟨?_, rfl⟩; exact ⟨i + 1, st, by go_num, rfl, by omega, HN⟩)
                          case measure => simp [Go.RowKit.intOf]; omega
                  · have p1 : ¬ (i : Int) < (R : Int) := by omega
                    have hf : fs' = G := by rw [← hG, show R - i = 0 by omega]; exact (List.append_nil _).symm
                    have HE2 := Lib.hid (And.intro T0 hf)
                    clear T0 hG hS hf
                    go_wp2_with fail
                    rw [HE.out]
                    exact ⟨u3, rfl, by rw [← HG.out.1, ← HE2.out.2]; exact HE2.out.1.fr, HE2.out.1.b⟩
              · have HN := Lib.hid (show ok = false from by rw [HX.out.1]; exact decide_eq_false (fun h => c4 h.2.2.2.2))
                have k4 : (n : Int) < 2 + 5 * (R : Int) := by omega
                subst c2
                clear hsh hsh0 ha16 c1 c3 c4 hbb
                go_wp2_with (at_builtin; refine rwp_appF rfl (.tmp 69) (.tmp 71) rfl rfl (H2.out.1.below (Gw.alloc w2 _)) (some ⟨w2.heap.size, 0, none⟩) 1 1 [(1, sizeS)] rfl rfl (rrdF_new w2 1 sizeS) (by have := HX.out.2.2.2.2.2.2.2; simp; omega) (Nat.le_trans H2.out.2.size (Gw.alloc w2 _).size) ?_; intro v3 w3 ho3 hb3 hg3 hj3; have H3 := Lib.hid (And.intro ho3 ((H2.out.2.trans ((Gw.alloc w2 _).mono H2.out.2.size)).trans hb3)); clear ho3 hb3 hg3 hj3)
                rw [HE.out]
                exact ⟨v3, rfl, by rw [HX.out.2.2.2.2.2.1, if_neg (by rw [HN.out]; decide)]; exact H3.out.1, H3.out.2⟩
            · have HN := Lib.hid (show ok = false from by rw [HX.out.1]; exact decide_eq_false (fun h => c3 h.2.2.2.1))
              have k3 : (64 : Int) < (R : Int) := by omega
              subst c2
              clear hsh hsh0 ha16 c1 c3 hbb
              go_wp2_with (at_builtin; refine rwp_appF rfl (.tmp 69) (.tmp 71) rfl rfl (H2.out.1.below (Gw.alloc w2 _)) (some ⟨w2.heap.size, 0, none⟩) 1 1 [(1, sizeS)] rfl rfl (rrdF_new w2 1 sizeS) (by have := HX.out.2.2.2.2.2.2.2; simp; omega) (Nat.le_trans H2.out.2.size (Gw.alloc w2 _).size) ?_; intro v3 w3 ho3 hb3 hg3 hj3; have H3 := Lib.hid (And.intro ho3 ((H2.out.2.trans ((Gw.alloc w2 _).mono H2.out.2.size)).trans hb3)); clear ho3 hb3 hg3 hj3)
              rw [HE.out]
              exact ⟨v3, rfl, by rw [HX.out.2.2.2.2.2.1, if_neg (by rw [HN.out]; decide)]; exact H3.out.1, H3.out.2⟩
          · have HN := Lib.hid (show ok = false from by rw [HX.out.1]; exact decide_eq_false (fun h => c2 (ha16.trans h.2.2.1)))
            have k3 : (a16 != (n : Int)) = true := by rw [bne_iff_ne]; exact c2
            clear hsh hsh0 ha16 c1 c2 hbb
            go_wp2_with (at_builtin; refine rwp_appF rfl (.tmp 69) (.tmp 71) rfl rfl (H2.out.1.below (Gw.alloc w2 _)) (some ⟨w2.heap.size, 0, none⟩) 1 1 [(1, sizeS)] rfl rfl (rrdF_new w2 1 sizeS) (by have := HX.out.2.2.2.2.2.2.2; simp; omega) (Nat.le_trans H2.out.2.size (Gw.alloc w2 _).size) ?_; intro v3 w3 ho3 hb3 hg3 hj3; have H3 := Lib.hid (And.intro ho3 ((H2.out.2.trans ((Gw.alloc w2 _).mono H2.out.2.size)).trans hb3)); clear ho3 hb3 hg3 hj3)
            rw [HE.out]
            exact ⟨v3, rfl, by rw [HX.out.2.2.2.2.2.1, if_neg (by rw [HN.out]; decide)]; exact H3.out.1, H3.out.2⟩
        · have HN := Lib.hid (show ok = false from by rw [HX.out.1]; exact decide_eq_false (fun h => c1 (hsh.trans h.2.1)))
          have k3 : (U64 x1 / 281474976710656 != 0) = true := by rw [bne_iff_ne, ← hsh]; exact c1
          clear hsh c1 hbb
          go_wp2_with (at_builtin; refine rwp_appF rfl (.tmp 69) (.tmp 71) rfl rfl (H1.out.1.below (Gw.alloc w1 _)) (some ⟨w1.heap.size, 0, none⟩) 1 1 [(1, sizeS)] rfl rfl (rrdF_new w1 1 sizeS) (by have := HX.out.2.2.2.2.2.2.2; simp; omega) (Nat.le_trans H1.out.2.size (Gw.alloc w1 _).size) ?_; intro v3 w3 ho3 hb3 hg3 hj3; have H3 := Lib.hid (And.intro ho3 ((H1.out.2.trans ((Gw.alloc w1 _).mono H1.out.2.size)).trans hb3)); clear ho3 hb3 hg3 hj3)
          rw [HE.out]
          exact ⟨v3, rfl, by rw [HX.out.2.2.2.2.2.1, if_neg (by rw [HN.out]; decide)]; exact H3.out.1, H3.out.2⟩
    · have hme : mf = [(0, magicS)] := by rw [hmf]; unfold magF; rw [if_pos (.inr (by rw [← hx0]; exact hmg))]
      have HMe := Lib.hid hme
      have g0' : (U64 x0 != 1296125772) = true := by
        rw [bne_iff_ne]
        intro h
        exact hmg (U64_inj (show U64 x0 = U64 1296125772#64 from h))
      obtain ⟨xv, hxv⟩ : ∃ xv, xv = U64 x0 := ⟨_, rfl⟩
      rw [← hxv] at g0 g0'
      have HL := Lib.hid hadl
      clear hE hr h8 hl hok hR hn hmf hml himg hx0 hx1 e0 h0 hR6 hme hmg hxv hadl hoks h016 hG1
      by_cases h2 : n < 2
      · have HN := Lib.hid (show ok = false from by rw [HX.out.1]; exact decide_eq_false (fun h => by omega))
        have k2 : (n : Int) < 2 := by omega
        clear hbb h2
        go_enter Try.func11, Try.ntmps11
        go_wp2_with (first | (at_builtin; refine rwp_appF rfl (.tmp 21) (.tmp 23) rfl rfl (rFR.nil _ w.heap.size) (some ⟨w.heap.size, 0, none⟩) 1 1 [(0, magicS)] rfl rfl (rrdF_new w 0 magicS) (by decide) (Gw.alloc w _).size ?_; intro v1 w0 ho1 hb1 hg1 hj1; have H0 := Lib.hid (show rFR w0 w.heap.size v1 mf ∧ Below w.heap.size w w0 from ⟨by rw [HMe.out]; exact ho1, (Gw.alloc w _).trans hb1⟩); obtain ⟨oA, oN, oC, e1⟩ := rfr_slice ho1; subst e1; clear ho1 hb1 hg1 hj1) | (at_builtin; refine rwp_appF rfl (.tmp 28) (.tmp 30) rfl rfl (H0.out.1.below (Gw.alloc w0 _)) (some ⟨w0.heap.size, 0, none⟩) 1 1 [(1, sizeS)] rfl rfl (rrdF_new w0 1 sizeS) (by have := HX.out.2.2.2.2.2.2.2; simp; omega) (Nat.le_trans H0.out.2.size (Gw.alloc w0 _).size) ?_; intro v3 w3 ho3 hb3 hg3 hj3; have H3 := Lib.hid (And.intro ho3 ((H0.out.2.trans ((Gw.alloc w0 _).mono H0.out.2.size)).trans hb3)); clear ho3 hb3 hg3 hj3))
        rw [HE.out]
        exact ⟨v3, rfl, by rw [HX.out.2.2.2.2.2.1, if_neg (by rw [HN.out]; decide)]; exact H3.out.1, H3.out.2⟩
      · replace h2 : 2 ≤ n := by omega
        have k2 : ¬ (n : Int) < 2 := by omega
        have k4 : (1 : Int) < (n : Int) := by omega
        go_enter Try.func11, Try.ntmps11
        go_wp2_with (at_builtin; refine rwp_appF rfl (.tmp 21) (.tmp 23) rfl rfl (rFR.nil _ w.heap.size) (some ⟨w.heap.size, 0, none⟩) 1 1 [(0, magicS)] rfl rfl (rrdF_new w 0 magicS) (by decide) (Gw.alloc w _).size ?_; intro v1 w0 ho1 hb1 hg1 hj1; have H0 := Lib.hid (show rFR w0 w.heap.size v1 mf ∧ Below w.heap.size w w0 from ⟨by rw [HMe.out]; exact ho1, (Gw.alloc w _).trans hb1⟩); obtain ⟨oA, oN, oC, e1⟩ := rfr_slice ho1; subst e1; clear ho1 hb1 hg1 hj1; have hq := Nat.lt_of_lt_of_le HL.out H0.out.2.size; have g1 : w0.cell? ⟨ad.block, ad.off + 1, none⟩ = some (.int .u64 (U64 x1)) := (H0.out.2.cell (p := ⟨ad.block, ad.off + 1, none⟩) HL.out).trans (HG1.out h2); clear h2)
        refine Calls.mono (of_ansk (rfield_c x1 0 16 (by decide) (by decide) w0)) ?_
        rintro r w1 ⟨u, rfl, b1, hu⟩
        unfold IsV at hu
        subst hu
        rw [HF0.out]
        have H1 := Lib.hid (show rFR w1 w.heap.size (.slice oA oN oC) mf ∧ Below w.heap.size w w1 from ⟨H0.out.1.below b1, H0.out.2.trans (b1.mono H0.out.2.size)⟩)
        replace g1 := (b1.cell (p := ⟨ad.block, ad.off + 1, none⟩) hq).trans g1
        replace hq := Nat.lt_of_lt_of_le hq b1.size
        clear b1 H0
        obtain ⟨sh, hsh⟩ : ∃ s, s = U64 x1 / 281474976710656 := ⟨_, rfl⟩
        by_cases c1 : sh = 0
        · have hsh0 : U64 x1 / 281474976710656 = 0 := by rw [← hsh]; exact c1
          go_wp2_with fail
          refine Calls.mono (of_ansk (rfield_c x1 16 32 (by decide) (by decide) w1)) ?_
          rintro r w2 ⟨u, rfl, b2, hu⟩
          unfold IsV at hu
          subst hu
          have H2 := Lib.hid (show rFR w2 w.heap.size (.slice oA oN oC) mf ∧ Below w.heap.size w w2 from ⟨H1.out.1.below b2, H1.out.2.trans (b2.mono H1.out.2.size)⟩)
          replace hq := Nat.lt_of_lt_of_le hq b2.size
          clear b2 H1 g1
          obtain ⟨a16, ha16⟩ : ∃ a, a = U64 (fieldB x1 16 32) := ⟨_, rfl⟩
          rw [← ha16]
          by_cases c2 : a16 = (n : Int)
          · by_cases c3 : R ≤ 64
            · have k3 : ¬ (64 : Int) < (R : Int) := by omega
              by_cases c4 : bb ≤ n
              · have HOk := Lib.hid (show ok = true from by rw [HX.out.1]; exact decide_eq_true ⟨by omega, hsh0, by rw [← ha16]; exact c2, c3, c4⟩)
                have k4 : ¬ (n : Int) < 2 + 5 * (R : Int) := by omega
                have kbb : 2 + 5 * (R : Int) = (bb : Int) := by omega
                subst c2
                have c3H := Lib.hid c3
                have c4H := Lib.hid c4
                clear hsh hsh0 ha16 c1 c3 c4 hbb
                have himg : imgF ws = mf ++ insF ws R := by rw [HX.out.2.2.2.2.2.1, if_pos HOk.out]
                obtain ⟨F, hF⟩ : ∃ F, F = foundN ws n (n + 1) bb := ⟨_, rfl⟩
                obtain ⟨G, hG⟩ : ∃ G, G = imgF ws := ⟨_, rfl⟩
                have hins : G = mf ++ ((badF F.2 ++ allE ws F.1 F.1) ++ rootF ws F.1 R 0 ⟨#[]⟩) := by rw [hG, himg, hF, HX.out.2.2.2.1, HX.out.2.2.1]; rfl
                have hGl : G.length ≤ 5000 := by rw [hG]; exact HX.out.2.2.2.2.2.2.1
                have hpl : F.1.length ≤ 8192 := by
                  have h2 := found_len ws n (n + 1) bb
                  rw [← hF] at h2
                  have := HX.out.2.2.2.2.1
                  have := HX.out.2.2.1
                  omega
                have hpg : ∀ a ∈ F.1, a < 1073741824 := fun a ha => by
                  obtain ⟨_, h2, _⟩ := found_good ws n (n + 1) bb a (by rw [← hF]; exact ha)
                  omega
                rw [← hF] at HSp HFd
                obtain ⟨p, hp⟩ : ∃ p, p = F.1 := ⟨_, rfl⟩
                obtain ⟨S, hS⟩ : ∃ S, S = badF F.2 ++ allE ws F.1 F.1 := ⟨_, rfl⟩
                rw [← hS, ← hp] at hins
                rw [← hp] at hpl hpg HFd
                rw [← hp] at hS
                rw [← hp, ← hS] at HSp
                have HG := Lib.hid (And.intro hG (And.intro hins (And.intro hGl (And.intro hpl hpg))))
                have hSl : S.length ≤ 5000 := by have h := hGl; rw [hins, List.length_append, List.length_append] at h; omega
                have HSl := Lib.hid hSl
                clear himg hG hins hGl hpl hpg hF hp hS hSl
                have r1 : (R : Int) ≤ 64 := by have := c3H.out; omega
                have bI : (bb : Int) ≤ 8192 := by have := c4H.out; omega
                go_wp2_with fail
                refine Calls.mono (HSp.out w2 H2.out.2 c4H.out HSl.out) ?_
                rintro r w3 ⟨lv, rfl, hlv, b3⟩
                have H3 := Lib.hid (show rFR w3 w.heap.size (.slice oA oN oC) mf ∧ Below w.heap.size w w3 ∧ rFR w3 w2.heap.size lv S from ⟨H2.out.1.below b3, H2.out.2.trans (b3.mono H2.out.2.size), hlv⟩)
                obtain ⟨sA, sC, e1, _⟩ := hlv.slice_
                obtain ⟨sN, hsN⟩ : ∃ sN, sN = S.length := ⟨_, rfl⟩
                rw [← hsN] at e1
                subst e1
                have HsN := Lib.hid hsN
                clear hlv b3 H2 HSp hsN
                go_wp2_with (at_builtin; refine rwp_appF rfl (.tmp 73) (.tmp 80) rfl rfl H3.out.1 sA sN sC S rfl HsN.out H3.out.2.2.rdf (by have := HX.out.2.2.2.2.2.2.2; have := HSl.out; omega) H3.out.2.1.size ?_; intro v4 w4 ho4 hb4 hg4 hj4; have H4 := Lib.hid (show rFR w4 w.heap.size v4 (mf ++ S) ∧ Below w.heap.size w w4 from ⟨ho4, H3.out.2.1.trans hb4⟩); obtain ⟨oA4, oN4, oC4, e4⟩ := rfr_slice ho4; subst e4; clear ho4 hb4 hg4 hj4 H3)
                refine Calls.mono (HFd.out w4 H4.out.2 c4H.out) ?_
                rintro r w5 ⟨pA, pc, rfl, hp5, b5⟩
                obtain ⟨M, hM⟩ : ∃ M, M = p.length := ⟨_, rfl⟩
                rw [← hM] at hp5 ⊢
                have HS0 : Hid (∃ fs', RIm w (.slice pA M pc) p w5 (.slice oA4 oN4 oC4) fs' ∧ fs' ++ rootF ws p (R - 0) 0 ⟨#[]⟩ = G) := Lib.hid ⟨mf ++ S, ⟨H4.out.1.below b5, H4.out.2.trans (b5.mono H4.out.2.size), ow_more hp5 H4.out.2.size, fun k hk e => by
                  have h1 := (H4.out.1.lt k hk).2
                  have h2 := (World.ownsRow.lt hp5 k e).1
                  omega⟩, by rw [HG.out.2.1, List.append_assoc]; rfl⟩
                have HM := Lib.hid hM
                clear hp5 b5 hM H4 HFd
                go_wp2_with fail
                go_loopw [3, 7, 8] (fun o s x W => ∃ (i : Nat) (ab : ByteArray), x = .int .i64 i ∧ s = .string ab ∧ i ≤ R ∧ Hid (∃ fs', RIm w (.slice pA M pc) p W o fs' ∧ fs' ++ rootF ws p (R - i) i ab = G)) (fun _ _ x _ => R - (Go.RowKit.intOf x).toNat)
                case atStart => exact ⟨0, ⟨#[]⟩, rfl, rfl, Nat.zero_le _, HS0⟩
                case round =>
                  obtain ⟨i, ab, rfl, rfl, hi, hS⟩ := hrel
                  clear HS0
                  obtain ⟨fs', T0, hG⟩ := hS.out
                  have p0 : (0 : Int) ≤ (i : Int) := by omega
                  by_cases hlt : i < R
                  · have p1 : (i : Int) < (R : Int) := by omega
                    obtain ⟨q, hq⟩ : ∃ q, q = 2 + 5 * i := ⟨_, rfl⟩
                    obtain ⟨q4, hq4⟩ : ∃ q4, q4 = q + 4 := ⟨_, rfl⟩
                    have hql : q4 < ws.length := by have h1 := c4H.out; have h2 := HX.out.2.2.2.1; have h3 := HX.out.2.2.1; omega
                    have qN : (q4 : Int) < (n : Int) := by have h3 := HX.out.2.2.1; omega
                    have qI : (q : Int) + 4 = (q4 : Int) := by omega
                    have qJ : (q4 : Int) ≤ 8192 := by omega
                    have qK : (0 : Int) ≤ (q : Int) := by omega
                    have qL : 2 + 5 * (i : Int) = (q : Int) := by omega
                    have qM : (0 : Int) ≤ (q4 : Int) := by omega
                    obtain ⟨j, hj⟩ : ∃ j, R - i = j + 1 := ⟨R - i - 1, by omega⟩
                    have hj2 : R - (i + 1) = j := by omega
                    obtain ⟨k, hk⟩ : ∃ k, k = bytesM ws (8 * q) 32 := ⟨_, rfl⟩
                    have hkA : nmAt ws i = k := by rw [hk, hq]; rfl
                    obtain ⟨nm, hnm⟩ : ∃ nm, nm = strB (cutN k) := ⟨_, rfl⟩
                    obtain ⟨okn, hokn⟩ : ∃ o, o = nmOk k := ⟨_, rfl⟩
                    obtain ⟨le, hle⟩ : ∃ le, le = lessS nm ab := ⟨_, rfl⟩
                    obtain ⟨ld, hld⟩ : ∃ ld, ld = leadB ws p q4 := ⟨_, rfl⟩
                    rw [hj] at hG
                    have hG2 : fs' ++ ((if okn = true ∧ le = false then [] else [(q, nameS)]) ++ (if ld = true then [] else [(q4, rootS)]) ++ rootF ws p j (i + 1) (if okn = true then nm else ab)) = G := by
                      rw [hle, hld, hokn, hnm, hq4, hq, ← hkA]
                      exact hG
                    have hfl : fs'.length ≤ 5000 := by
                      have h1 := HG.out.2.2.1
                      rw [← hG2, List.length_append] at h1
                      omega
                    have HE2 := Lib.hid (And.intro hG2 (And.intro hj2 hfl))
                    have hy2 : (Op.bytesLess nm.toList ab.toList || nm.toList == ab.toList) = le := hle.symm
                    have HNq := HNm.out wr T0.b q (by have h3 := HX.out.2.2.1; omega)
                    rw [← hk] at HNq
                    unfold NameR at HNq
                    rw [← hokn, ← hnm] at HNq
                    replace HNq := Lib.hid HNq
                    obtain ⟨ad2, had2, hadl2, hcw2⟩ := HRd.out q4 hql
                    injection had2 with had2
                    subst had2
                    obtain ⟨y, hy⟩ : ∃ y, y = ws[q4] := ⟨_, rfl⟩
                    rw [← hy] at hcw2
                    replace hcw2 : w.cell? (ad.add q4) = some (.int .u64 (U64 y)) := hcw2
                    have hye : ws.getD q4 0#64 = y := by rw [hy, List.getD_eq_getElem?_getD, List.getElem?_eq_getElem hql]; rfl
                    have hld2 : decide (y.toNat = 0 ∨ (1 ≤ y.toNat ∧ y.toNat - 1 ∈ p)) = ld := by rw [hld]; unfold leadB; rw [hye]
                    have HPt := Lib.hid (fun W (o : Value) (fs : List (Nat × ByteArray)) (h : RIm w (.slice pA M pc) p W o fs) => show Calls Try.prog 32 #[.slice pA M pc, .int .u64 (U64 y)] W (RetP (.bool ld) W) from by
                      have h1 := h.pp
                      rw [HM.out] at h1 ⊢
                      rw [← hld2]
                      exact points_c W pA pc p h1.rd (by have := HG.out.2.2.2.1; omega) HG.out.2.2.2.2 y)
                    obtain ⟨yv, hyv⟩ : ∃ yv, yv = U64 y := ⟨_, rfl⟩
                    rw [← hyv] at HPt hcw2
                    have HC := Lib.hid (fun W (hb : Below w.heap.size w W) => show (ad.add q4).block < W.heap.size ∧ W.cell? (ad.add q4) = some (.int .u64 yv) from ⟨by rw [add_block]; exact Nat.lt_of_lt_of_le hadl2 hb.size, (hb.cell (p := ad.add q4) (by rw [add_block]; exact hadl2)).trans hcw2⟩)
                    have H0 := Lib.hid T0
                    clear hS T0 hG hG2 hj hj2 hq hq4 hql hk hkA hnm hokn hle hld hy hye hld2 hfl hyv hcw2 hadl2
                    go_wp2_with fail
                    refine Calls.mono HNq.out ?_
                    rintro r w6 ⟨st, rfl, hst, b6⟩
                    have H6 := Lib.hid (H0.out.go b6)
                    obtain ⟨hcl, hcy⟩ := HC.out w6 H6.out.b
                    clear b6 H0 HNq
                    cases okn with
                    | false =>
                      clear hy2 hst
                      clear hcl hcy
                      go_wp2_with (at_builtin; refine rwp_appF rfl (.tmp 113) (.tmp 116) rfl rfl (H6.out.fr.below (Gw.alloc w6 _)) (some ⟨w6.heap.size, 0, none⟩) 1 1 [(q, nameS)] rfl rfl (rrdF_new w6 _ _) (by have := HE2.out.2.2; simp; omega) (Nat.le_trans H6.out.b.size (Gw.alloc w6 _).size) ?_; intro vw7 w7 ho hb hg hv; have H7 := Lib.hid (H6.out.app ho hb hg hv); clear ho hb hg hv; obtain ⟨hcl7, hcy7⟩ := HC.out w7 H7.out.b)
                      refine Calls.mono (HPt.out w7 _ _ H7.out) ?_
                      rintro r w8 ⟨rfl, b8⟩
                      have H8 := Lib.hid (H7.out.go b8)
                      clear b8
                      cases ld with
                      | false =>
                        clear hcl7 hcy7 H7
                        go_wp2_with (at_builtin; refine rwp_appF rfl (.tmp 128) (.tmp 132) rfl rfl (H8.out.fr.below (Gw.alloc w8 _)) (some ⟨w8.heap.size, 0, none⟩) 1 1 [(q4, rootS)] rfl rfl (rrdF_new w8 _ _) (by have := HE2.out.2.2; simp; omega) (Nat.le_trans H8.out.b.size (Gw.alloc w8 _).size) ?_; intro vw9 w9 ho hb hg hv; have H9 := Lib.hid (H8.out.app ho hb hg hv); clear ho hb hg hv)
                        have HN : Hid (∃ fs', RIm w (.slice pA M pc) p w9 vw9 fs' ∧ fs' ++ rootF ws p (R - (i + 1)) (i + 1) ab = G) := Lib.hid ⟨(fs' ++ [(q, nameS)]) ++ [(q4, rootS)], H9.out, by have h1 := HE2.out.1; rw [HE2.out.2.1]; simpa using h1⟩
                        go_roundw
                        case rel => first | exact ⟨i + 1, ab, by go_num, rfl, by omega, HN⟩ | ((repeat apply Exists.intro); refine ⟨?_, rfl⟩; exact ⟨i + 1, ab, by go_num, rfl, by omega, HN⟩)
                        case measure => simp [Go.RowKit.intOf]; omega
                      | true =>
                        have HN : Hid (∃ fs', RIm w (.slice pA M pc) p w8 vw7 fs' ∧ fs' ++ rootF ws p (R - (i + 1)) (i + 1) ab = G) := Lib.hid ⟨(fs' ++ [(q, nameS)]), H8.out, by have h1 := HE2.out.1; rw [HE2.out.2.1]; simpa using h1⟩
                        clear hcl7 hcy7 H7
                        go_wp2_with fail
                        go_roundw
                        case rel => first | exact ⟨i + 1, ab, by go_num, rfl, by omega, HN⟩ | ((repeat apply Exists.intro); refine ⟨?_, rfl⟩; exact ⟨i + 1, ab, by go_num, rfl, by omega, HN⟩)
                        case measure => simp [Go.RowKit.intOf]; omega
                    | true =>
                      have hs := hst rfl
                      subst hs
                      clear hst
                      cases le with
                      | true =>
                        clear hcl hcy
                        go_wp2_with (at_builtin; refine rwp_appF rfl (.tmp 113) (.tmp 116) rfl rfl (H6.out.fr.below (Gw.alloc w6 _)) (some ⟨w6.heap.size, 0, none⟩) 1 1 [(q, nameS)] rfl rfl (rrdF_new w6 _ _) (by have := HE2.out.2.2; simp; omega) (Nat.le_trans H6.out.b.size (Gw.alloc w6 _).size) ?_; intro vw7 w7 ho hb hg hv; have H7 := Lib.hid (H6.out.app ho hb hg hv); clear ho hb hg hv; obtain ⟨hcl7, hcy7⟩ := HC.out w7 H7.out.b)
                        refine Calls.mono (HPt.out w7 _ _ H7.out) ?_
                        rintro r w8 ⟨rfl, b8⟩
                        have H8 := Lib.hid (H7.out.go b8)
                        clear b8
                        cases ld with
                        | false =>
                          clear hcl7 hcy7 H7
                          go_wp2_with (at_builtin; refine rwp_appF rfl (.tmp 128) (.tmp 132) rfl rfl (H8.out.fr.below (Gw.alloc w8 _)) (some ⟨w8.heap.size, 0, none⟩) 1 1 [(q4, rootS)] rfl rfl (rrdF_new w8 _ _) (by have := HE2.out.2.2; simp; omega) (Nat.le_trans H8.out.b.size (Gw.alloc w8 _).size) ?_; intro vw9 w9 ho hb hg hv; have H9 := Lib.hid (H8.out.app ho hb hg hv); clear ho hb hg hv)
                          have HN : Hid (∃ fs', RIm w (.slice pA M pc) p w9 vw9 fs' ∧ fs' ++ rootF ws p (R - (i + 1)) (i + 1) st = G) := Lib.hid ⟨(fs' ++ [(q, nameS)]) ++ [(q4, rootS)], H9.out, by have h1 := HE2.out.1; rw [HE2.out.2.1]; simpa using h1⟩
                          go_roundw
                          case rel => first | exact ⟨i + 1, st, by go_num, rfl, by omega, HN⟩ | ((repeat apply Exists.intro); refine ⟨?_, rfl⟩; exact ⟨i + 1, st, by go_num, rfl, by omega, HN⟩)
                          case measure => simp [Go.RowKit.intOf]; omega
                        | true =>
                          have HN : Hid (∃ fs', RIm w (.slice pA M pc) p w8 vw7 fs' ∧ fs' ++ rootF ws p (R - (i + 1)) (i + 1) st = G) := Lib.hid ⟨(fs' ++ [(q, nameS)]), H8.out, by have h1 := HE2.out.1; rw [HE2.out.2.1]; simpa using h1⟩
                          clear hcl7 hcy7 H7
                          go_wp2_with fail
                          go_roundw
                          case rel => first | exact ⟨i + 1, st, by go_num, rfl, by omega, HN⟩ | ((repeat apply Exists.intro); refine ⟨?_, rfl⟩; exact ⟨i + 1, st, by go_num, rfl, by omega, HN⟩)
                          case measure => simp [Go.RowKit.intOf]; omega
                      | false =>
                        go_wp2_with fail
                        refine Calls.mono (HPt.out w6 _ _ H6.out) ?_
                        rintro r w8 ⟨rfl, b8⟩
                        have H8 := Lib.hid (H6.out.go b8)
                        clear b8
                        cases ld with
                        | false =>
                          clear hcl hcy H6
                          go_wp2_with (at_builtin; refine rwp_appF rfl (.tmp 128) (.tmp 132) rfl rfl (H8.out.fr.below (Gw.alloc w8 _)) (some ⟨w8.heap.size, 0, none⟩) 1 1 [(q4, rootS)] rfl rfl (rrdF_new w8 _ _) (by have := HE2.out.2.2; simp; omega) (Nat.le_trans H8.out.b.size (Gw.alloc w8 _).size) ?_; intro vw9 w9 ho hb hg hv; have H9 := Lib.hid (H8.out.app ho hb hg hv); clear ho hb hg hv)
                          have HN : Hid (∃ fs', RIm w (.slice pA M pc) p w9 vw9 fs' ∧ fs' ++ rootF ws p (R - (i + 1)) (i + 1) st = G) := Lib.hid ⟨fs' ++ [(q4, rootS)], H9.out, by have h1 := HE2.out.1; rw [HE2.out.2.1]; simpa using h1⟩
                          go_roundw
                          case rel => first | exact ⟨i + 1, st, by go_num, rfl, by omega, HN⟩ | ((repeat apply Exists.intro); refine ⟨?_, rfl⟩; exact ⟨i + 1, st, by go_num, rfl, by omega, HN⟩)
                          case measure => simp [Go.RowKit.intOf]; omega
                        | true =>
                          have HN : Hid (∃ fs', RIm w (.slice pA M pc) p w8 u3 fs' ∧ fs' ++ rootF ws p (R - (i + 1)) (i + 1) st = G) := Lib.hid ⟨fs', H8.out, by have h1 := HE2.out.1; rw [HE2.out.2.1]; simpa using h1⟩
                          clear hcl hcy H6
                          go_wp2_with fail
                          go_roundw
                          case rel => first | exact ⟨i + 1, st, by go_num, rfl, by omega, HN⟩ | ((repeat apply Exists.intro); refine ⟨?_, rfl⟩; exact ⟨i + 1, st, by go_num, rfl, by omega, HN⟩)
                          case measure => simp [Go.RowKit.intOf]; omega
                  · have p1 : ¬ (i : Int) < (R : Int) := by omega
                    have hf : fs' = G := by rw [← hG, show R - i = 0 by omega]; exact (List.append_nil _).symm
                    have HE2 := Lib.hid (And.intro T0 hf)
                    clear T0 hG hS hf
                    go_wp2_with fail
                    rw [HE.out]
                    exact ⟨u3, rfl, by rw [← HG.out.1, ← HE2.out.2]; exact HE2.out.1.fr, HE2.out.1.b⟩
              · have HN := Lib.hid (show ok = false from by rw [HX.out.1]; exact decide_eq_false (fun h => c4 h.2.2.2.2))
                have k4 : (n : Int) < 2 + 5 * (R : Int) := by omega
                subst c2
                clear hsh hsh0 ha16 c1 c3 c4 hbb
                go_wp2_with (at_builtin; refine rwp_appF rfl (.tmp 69) (.tmp 71) rfl rfl (H2.out.1.below (Gw.alloc w2 _)) (some ⟨w2.heap.size, 0, none⟩) 1 1 [(1, sizeS)] rfl rfl (rrdF_new w2 1 sizeS) (by have := HX.out.2.2.2.2.2.2.2; simp; omega) (Nat.le_trans H2.out.2.size (Gw.alloc w2 _).size) ?_; intro v3 w3 ho3 hb3 hg3 hj3; have H3 := Lib.hid (And.intro ho3 ((H2.out.2.trans ((Gw.alloc w2 _).mono H2.out.2.size)).trans hb3)); clear ho3 hb3 hg3 hj3)
                rw [HE.out]
                exact ⟨v3, rfl, by rw [HX.out.2.2.2.2.2.1, if_neg (by rw [HN.out]; decide)]; exact H3.out.1, H3.out.2⟩
            · have HN := Lib.hid (show ok = false from by rw [HX.out.1]; exact decide_eq_false (fun h => c3 h.2.2.2.1))
              have k3 : (64 : Int) < (R : Int) := by omega
              subst c2
              clear hsh hsh0 ha16 c1 c3 hbb
              go_wp2_with (at_builtin; refine rwp_appF rfl (.tmp 69) (.tmp 71) rfl rfl (H2.out.1.below (Gw.alloc w2 _)) (some ⟨w2.heap.size, 0, none⟩) 1 1 [(1, sizeS)] rfl rfl (rrdF_new w2 1 sizeS) (by have := HX.out.2.2.2.2.2.2.2; simp; omega) (Nat.le_trans H2.out.2.size (Gw.alloc w2 _).size) ?_; intro v3 w3 ho3 hb3 hg3 hj3; have H3 := Lib.hid (And.intro ho3 ((H2.out.2.trans ((Gw.alloc w2 _).mono H2.out.2.size)).trans hb3)); clear ho3 hb3 hg3 hj3)
              rw [HE.out]
              exact ⟨v3, rfl, by rw [HX.out.2.2.2.2.2.1, if_neg (by rw [HN.out]; decide)]; exact H3.out.1, H3.out.2⟩
          · have HN := Lib.hid (show ok = false from by rw [HX.out.1]; exact decide_eq_false (fun h => c2 (ha16.trans h.2.2.1)))
            have k3 : (a16 != (n : Int)) = true := by rw [bne_iff_ne]; exact c2
            clear hsh hsh0 ha16 c1 c2 hbb
            go_wp2_with (at_builtin; refine rwp_appF rfl (.tmp 69) (.tmp 71) rfl rfl (H2.out.1.below (Gw.alloc w2 _)) (some ⟨w2.heap.size, 0, none⟩) 1 1 [(1, sizeS)] rfl rfl (rrdF_new w2 1 sizeS) (by have := HX.out.2.2.2.2.2.2.2; simp; omega) (Nat.le_trans H2.out.2.size (Gw.alloc w2 _).size) ?_; intro v3 w3 ho3 hb3 hg3 hj3; have H3 := Lib.hid (And.intro ho3 ((H2.out.2.trans ((Gw.alloc w2 _).mono H2.out.2.size)).trans hb3)); clear ho3 hb3 hg3 hj3)
            rw [HE.out]
            exact ⟨v3, rfl, by rw [HX.out.2.2.2.2.2.1, if_neg (by rw [HN.out]; decide)]; exact H3.out.1, H3.out.2⟩
        · have HN := Lib.hid (show ok = false from by rw [HX.out.1]; exact decide_eq_false (fun h => c1 (hsh.trans h.2.1)))
          have k3 : (U64 x1 / 281474976710656 != 0) = true := by rw [bne_iff_ne, ← hsh]; exact c1
          clear hsh c1 hbb
          go_wp2_with (at_builtin; refine rwp_appF rfl (.tmp 69) (.tmp 71) rfl rfl (H1.out.1.below (Gw.alloc w1 _)) (some ⟨w1.heap.size, 0, none⟩) 1 1 [(1, sizeS)] rfl rfl (rrdF_new w1 1 sizeS) (by have := HX.out.2.2.2.2.2.2.2; simp; omega) (Nat.le_trans H1.out.2.size (Gw.alloc w1 _).size) ?_; intro v3 w3 ho3 hb3 hg3 hj3; have H3 := Lib.hid (And.intro ho3 ((H1.out.2.trans ((Gw.alloc w1 _).mono H1.out.2.size)).trans hb3)); clear ho3 hb3 hg3 hj3)
          rw [HE.out]
          exact ⟨v3, rfl, by rw [HX.out.2.2.2.2.2.1, if_neg (by rw [HN.out]; decide)]; exact H3.out.1, H3.out.2⟩
end Go.Proofs.Ytaminpfgkegibaa
