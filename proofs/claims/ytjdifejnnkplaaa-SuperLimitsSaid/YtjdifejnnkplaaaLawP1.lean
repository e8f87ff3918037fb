/- The law SuperLimits of layer 6 returns true for every argument. No conditions. -/
import Derived.Test.YtjdifejnnkplaaaFew6
import Derived.Test.YtjdifejnnkplaaaGeomT
import Derived.Test.YtjdifejnnkplaaaOpenS
namespace Go.Proofs.Ytjdifejnnkplaaa
set_option linter.unusedVariables false
set_option linter.unusedSimpArgs false
open Go.RowKit
set_option maxRecDepth 100000
set_option maxHeartbeats 800000
theorem lim6_far (s l n words space : Int) (w : World) (h : ¬ fewP s l n) : Calls Try.prog 5 #[gV s l n, .int .i64 words, .int .i64 space] w (TruP (.bool true) w) := by
  have HF := Lib.hid (fun W => few_no s l n W h)
  have HK := Lib.hid (Bk.new w 24 #[.int .i64 s, .int .i64 l, .int .i64 n])
  have HB := Lib.hid (Gw.alloc w (.cells #[.int .i64 s, .int .i64 l, .int .i64 n] 24))
  unfold gV at HF ⊢
  clear h
  go_enter Try.func5, Try.ntmps5
  go_wp2_with fail
  refine Calls.mono (known6_c _) ?_
  rintro e w1 ⟨rfl, b1⟩
  have HB1 := Lib.hid (HB.out.trans (b1.mono HB.out.size))
  obtain ⟨c0, c1, c2⟩ := (HK.out.below b1 HK.out.lt).three
  clear b1
  go_wp2_with fail
  refine Calls.mono (HF.out _) ?_
  rintro e w2 ⟨rfl, b2⟩
  have HB2 := Lib.hid (HB1.out.trans (b2.mono HB1.out.size))
  clear b2
  go_wp2_with fail
  go_ret
  exact ⟨rfl, HB2.out⟩
theorem lim6_bad (s l n words space : Int) (w : World) (h : fewP s l n) (hb : badS s l n space words) : Calls Try.prog 5 #[gV s l n, .int .i64 words, .int .i64 space] w (TruP (.bool true) w) := by
  have HF := Lib.hid (fun W => few_yes s l n W h)
  have HK := Lib.hid (Bk.new w 24 #[.int .i64 s, .int .i64 l, .int .i64 n])
  have HB := Lib.hid (Gw.alloc w (.cells #[.int .i64 s, .int .i64 l, .int .i64 n] 24))
  have HE := Lib.hid (fun W => enc6_bad 0#64 s l n space words 0#64 W hb)
  have HO := Lib.hid (fun W => of_c s l n W)
  have HC := Lib.hid (fun W => rcheck_c s l n W)
  have hz : U64 0#64 = 0 := by decide +kernel
  unfold gV at HF HO HC ⊢
  unfold blkV at HE
  rw [hz] at HE
  clear hz
  rcases (show (chkG s l n = 1) ∨ (chkG s l n = 0 ∧ words < 0) ∨ (chkG s l n = 0 ∧ ¬ words < 0 ∧ n < words) ∨ (chkG s l n = 0 ∧ ¬ words < 0 ∧ ¬ n < words ∧ ¬ space = 0 ∧ ¬ space = 1) from by
    unfold badS at hb
    unfold chkG
    by_cases hg : okG s l n = true
    · right
      rw [hg]
      have h2 : space < 0 ∨ 1 < space ∨ words < 0 ∨ n < words := by
        rcases hb with h | h
        · rw [hg] at h; cases h
        · exact h
      simp only [if_true, true_and]
      omega
    · left
      have : okG s l n = false := by simpa using hg
      rw [this]
      rfl) with hc | ⟨hc, h1⟩ | ⟨hc, h1, h2⟩ | ⟨hc, h1, h2, h3, h4⟩
  all_goals try (have t3 : (space == 0) = false := by simp [h3])
  all_goals try (have t4 : (space == 1) = false := by simp [h4])
  all_goals
    rw [hc] at HC
    clear hc hb h
    go_enter Try.func5, Try.ntmps5
    go_wp2_with fail
    refine Calls.mono (known6_c _) ?_
    rintro e w1 ⟨rfl, b1⟩
    have HB1 := Lib.hid (HB.out.trans (b1.mono HB.out.size))
    have HK1 := Lib.hid (HK.out.below b1 HK.out.lt)
    obtain ⟨c0, c1, c2⟩ := HK1.out.three
    clear b1
    go_wp2_with fail
    refine Calls.mono (HF.out _) ?_
    rintro e w2 ⟨rfl, b2⟩
    have HB2 := Lib.hid (HB1.out.trans (b2.mono HB1.out.size))
    have HK2 := Lib.hid (HK1.out.below b2 HK1.out.lt)
    clear b2 c0 c1 c2
    obtain ⟨c0, c1, c2⟩ := HK2.out.three
    go_wp2_with fail
    refine Calls.mono (HE.out _) ?_
    rintro e w3 ⟨rfl, b3⟩
    have HB3 := Lib.hid (HB2.out.trans (b3.mono HB2.out.size))
    have HK3 := Lib.hid (HK2.out.below b3 HK2.out.lt)
    clear b3 c0 c1 c2
    obtain ⟨c0, c1, c2⟩ := HK3.out.three
    go_wp2_with fail
    refine Calls.mono (HO.out _) ?_
    rintro e w4 ⟨rfl, b4⟩
    have HB4 := Lib.hid (HB3.out.trans (b4.mono HB3.out.size))
    have HK4 := Lib.hid (HK3.out.below b4 HK3.out.lt)
    clear b4 c0 c1 c2
    go_wp2_with fail
    refine Calls.mono (HC.out _) ?_
    rintro e w5 ⟨rfl, b5⟩
    have HB5 := Lib.hid (HB4.out.trans (b5.mono HB4.out.size))
    have HK5 := Lib.hid (HK4.out.below b5 HK4.out.lt)
    obtain ⟨c0, c1, c2⟩ := HK5.out.three
    clear b5
    go_wp2_with fail
    go_ret
    exact ⟨rfl, HB5.out⟩
theorem lim6_ok (s l n words space : Nat) (w : World) (h : fewP s l n) (hb : goodS s l n space words) : Calls Try.prog 5 #[gV s l n, .int .i64 words, .int .i64 space] w (TruP (.bool true) w) := by
  have hg := hb.1
  have og := okG_out hg
  have b1 := og.s1
  have HF := Lib.hid (fun W => few_yes (s : Int) l n W h)
  have HK := Lib.hid (Bk.new w 24 #[.int .i64 (s : Int), .int .i64 (l : Int), .int .i64 (n : Int)])
  have HB := Lib.hid (Gw.alloc w (.cells #[.int .i64 (s : Int), .int .i64 (l : Int), .int .i64 (n : Int)] 24))
  have HE := Lib.hid (fun W => enc6_ok 0#64 s l n space words 0#64 W hb)
  have HO := Lib.hid (fun W => of_c (s : Int) l n W)
  have HC := Lib.hid (fun W => rcheck_c (s : Int) l n W)
  have HL := Lib.hid (encSB_len 0#64 s l n space words 0#64 (by omega))
  have hz : U64 0#64 = 0 := by decide +kernel
  have hc : chkG s l n = (if okG s l n then 0 else 1) := rfl
  rw [hg] at hc
  simp only [if_true] at hc
  rw [hc] at HC
  unfold gV at HF HO HC ⊢
  unfold blkV at HE
  rw [hz] at HE
  have q1 : (0 : Int) ≤ (words : Int) := by omega
  have q2 : (words : Int) ≤ (n : Int) := by have := hb.2.2; omega
  have hsp := hb.2.1
  clear hz hc hg og b1 hb h
  rcases (show space = 0 ∨ space = 1 from by omega) with rfl | rfl
  all_goals
    go_enter Try.func5, Try.ntmps5
    go_wp2_with fail
    refine Calls.mono (known6_c _) ?_
    rintro e w1 ⟨rfl, b1⟩
    have HB1 := Lib.hid (HB.out.trans (b1.mono HB.out.size))
    have HK1 := Lib.hid (HK.out.below b1 HK.out.lt)
    obtain ⟨c0, c1, c2⟩ := HK1.out.three
    clear b1
    go_wp2_with fail
    refine Calls.mono (HF.out _) ?_
    rintro e w2 ⟨rfl, b2⟩
    have HB2 := Lib.hid (HB1.out.trans (b2.mono HB1.out.size))
    have HK2 := Lib.hid (HK1.out.below b2 HK1.out.lt)
    clear b2 c0 c1 c2
    obtain ⟨c0, c1, c2⟩ := HK2.out.three
    go_wp2_with fail
    refine Calls.mono (HE.out _) ?_
    rintro e w3 ⟨A3, k3, rfl, _, _, b3, _⟩
    rw [HL.out]
    have HB3 := Lib.hid (HB2.out.trans (b3.mono HB2.out.size))
    have HK3 := Lib.hid (HK2.out.below b3 HK2.out.lt)
    clear b3 c0 c1 c2
    obtain ⟨c0, c1, c2⟩ := HK3.out.three
    go_wp2_with fail
    refine Calls.mono (HO.out _) ?_
    rintro e w4 ⟨rfl, b4⟩
    have HB4 := Lib.hid (HB3.out.trans (b4.mono HB3.out.size))
    have HK4 := Lib.hid (HK3.out.below b4 HK3.out.lt)
    clear b4 c0 c1 c2
    go_wp2_with fail
    refine Calls.mono (HC.out _) ?_
    rintro e w5 ⟨rfl, b5⟩
    have HB5 := Lib.hid (HB4.out.trans (b5.mono HB4.out.size))
    have HK5 := Lib.hid (HK4.out.below b5 HK4.out.lt)
    obtain ⟨c0, c1, c2⟩ := HK5.out.three
    clear b5
    go_wp2_with fail
    go_ret
    exact ⟨rfl, HB5.out⟩
theorem lim6_walk (w : World) (s : Int) (ws : (Lit.int .i64 s).wf = true) (l : Int) (wl : (Lit.int .i64 l).wf = true) (n : Int) (wn : (Lit.int .i64 n).wf = true) (words : Int) (ww : (Lit.int .i64 words).wf = true) (space : Int) (wsp : (Lit.int .i64 space).wf = true) : Calls Try.prog 5 #[.agg #[.int .i64 s, .int .i64 l, .int .i64 n], .int .i64 words, .int .i64 space] w (TruP (.bool true) w) := by
  change Calls Try.prog 5 #[gV s l n, .int .i64 words, .int .i64 space] w (TruP (.bool true) w)
  by_cases h : fewP s l n
  · by_cases hb : badS s l n space words
    · exact lim6_bad s l n words space w h hb
    · have hg : okG s l n = true := by
        cases hg : okG s l n with
        | true => rfl
        | false => exact absurd (.inl hg) hb
      have og := okG_out hg
      have h1 := og.s1
      have h2 := og.l1
      have h3 := og.n1
      have h4 : ¬ (space < 0 ∨ 1 < space ∨ words < 0 ∨ n < words) := fun e => hb (.inr e)
      obtain ⟨s', rfl⟩ : ∃ k : Nat, s = (k : Int) := ⟨s.toNat, by omega⟩
      obtain ⟨l', rfl⟩ : ∃ k : Nat, l = (k : Int) := ⟨l.toNat, by omega⟩
      obtain ⟨n', rfl⟩ : ∃ k : Nat, n = (k : Int) := ⟨n.toNat, by omega⟩
      obtain ⟨sp', rfl⟩ : ∃ k : Nat, space = (k : Int) := ⟨space.toNat, by omega⟩
      obtain ⟨wd', rfl⟩ : ∃ k : Nat, words = (k : Int) := ⟨words.toNat, by omega⟩
      exact lim6_ok s' l' n' wd' sp' w h ⟨hg, by omega, by omega⟩
  · exact lim6_far s l n words space w h
end Go.Proofs.Ytjdifejnnkplaaa
namespace Go.Proofs.Ytjdifejnnkplaaa.superLimits
open Go.ChangeShapes Go.WideShapes Go.ChangeAt Go.RowKit
open Go.ChangeMaps (open_string shut_string)
set_option linter.unusedVariables false
set_option maxRecDepth 100000 in
theorem lifted (os : Os) (started : os.Started) (H : Type) (enc : TypeId × Value → H) :
    ReturnsInHanded {} Try.checked os 5 .any (Rows.superLimitsSpec.pre6 enc Try.prog Try.f5 Rows.superLimitsRow.domain false) (Rows.superLimitsSpec.post enc Try.prog Try.f5 false true false false) := by
  refine returnsInHanded_of_change (C := Try.checked) own started (by kernel_rfl) Try.func5
    (ChangeSpec.witness6 (enc := enc) (C := Try.checked) false ⟨#[], #[.agg #[.int .i64 0, .int .i64 0, .int .i64 0], .int .i64 0, .int .i64 0], []⟩ 8 (by kernel_rfl) (by kernel_rfl) (by kernel_rfl) (by kernel_rfl)) ?_
  intro W base args ds gs before hval0 hW hcnd _
  have hval : ∀ (j : Nat) t v, Try.f5.params[j]? = some t → args[j]? = some v → Value.okWide Try.prog W .any base t v := hval0
  have hW' := hW
  obtain ⟨p, q, hA0, hV, rfl, hfz, hnd⟩ := hW
  have hA : DataW.TrodAll enc Try.prog W 0 (fun _ => true) true Try.f5.params.toList args.toList ds p := hA0
  rw [Try.params5] at hA hval
  obtain ⟨v0, vs0, d0, ds0, p0, q0, hargs, rfl, rfl, h0, r0⟩ := trodAll_cons hA
  obtain ⟨v1, vs1, d1, ds1, p1, q1, rfl, rfl, rfl, h1, r1⟩ := trodAll_cons r0
  obtain ⟨v2, vs2, d2, ds2, p2, q2, rfl, rfl, rfl, h2, r2⟩ := trodAll_cons r1
  obtain ⟨rfl, rfl, rfl⟩ := trodAll_nil r2
  obtain rfl : args = #[v0, v1, v2] := by cases args; simp_all
  obtain ⟨rfl, rfl⟩ := trodVars_none hV
  have k0 := h0
  have lt0 : ∀ x ∈ p0, x.block < W.heap.size := by obtain ⟨m, hm⟩ := k0; exact DataW.trod_lt m _ _ _ hm
  obtain ⟨a0x, a0y, a0z, e0v, w0x, w0y, w0z⟩ := open_ints3 .i64 .i64 .i64 Try.underlying24 (by kernel_rfl) (by kernel_rfl) (by kernel_rfl) (by kernel_rfl) (by kernel_rfl) (hval 0 24 v0 rfl rfl) h0; subst e0v
  have k1 := h1
  have lt1 : ∀ x ∈ p1, x.block < W.heap.size := by obtain ⟨m, hm⟩ := k1; exact DataW.trod_lt m _ _ _ hm
  obtain ⟨a1, e1v, _, _, w1⟩ := open_int Try.underlying3 (hval 1 3 v1 rfl rfl) h1; subst e1v
  have k2 := h2
  have lt2 : ∀ x ∈ p2, x.block < W.heap.size := by obtain ⟨m, hm⟩ := k2; exact DataW.trod_lt m _ _ _ hm
  obtain ⟨a2, e2v, _, _, w2⟩ := open_int Try.underlying3 (hval 2 3 v2 rfl rfl) h2; subst e2v
  clear hA0 hval0
  refine (lim6_walk W a0x w0x a0y w0y a0z w0z a1 w1 a2 w2).mono fun e W' ⟨he, bel⟩ => ?_
  subst he
  exact ⟨_, rfl, _, _, _, [], _, [], hW', trodAll_mk1 (shut_bool Try.underlying4 _), (trodAll_cons_mk (Below.trod laidOut (by kernel_rfl) (of_decide_eq_true (by kernel_rfl)) k0 bel lt0) (trodAll_cons_mk (Below.trod laidOut (by kernel_rfl) (of_decide_eq_true (by kernel_rfl)) k1 bel lt1) (trodAll_cons_mk (Below.trod laidOut (by kernel_rfl) (of_decide_eq_true (by kernel_rfl)) k2 bel lt2) trodAll_mk0))), rfl, bel.frame _, fun h => by cases h⟩
theorem over : Rows.superLimitsRow.holds Try.pinned (OpenSpec.ofChange Rows.superLimitsSpec) :=
  OpenClaim.holds_of_wide 5 Try.f5 rfl rfl rfl rfl rfl rfl rfl ⟨rfl, rfl, rfl, rfl, rfl⟩ rfl rfl rfl rfl rfl (by kernel_rfl) Try.func5 (by kernel_rfl)
    (of_decide_eq_true (by kernel_rfl)) (by unfold Func.isWrapper; first | (rw [if_pos (by decide +kernel)]; kernel_rfl) | (rw [if_neg (by decide +kernel)]; exact ⟨rfl, rfl⟩))
    (fun os started H enc _ => lifted os started H enc)
theorem proved : Rows.SuperLimitsSaid := over
end Go.Proofs.Ytjdifejnnkplaaa.superLimits
