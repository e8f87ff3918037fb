/- The law NameUnlike of layer 19 returns true for every argument. No conditions. -/
import Derived.Test.YtdfhdgdhhgabbaaLawT1
namespace Go.Proofs.Ytdfhdgdhhgabbaa
set_option linter.unusedVariables false
set_option linter.unusedSimpArgs false
open Go.RowKit Go.Maps
set_option maxHeartbeats 2000000
set_option maxRecDepth 100000
theorem un_far (w : World) (s t : ByteArray) (h : 60 < s.size ∨ 60 < t.size) : Calls Try.prog 6 #[.string s, .string t] w (TruP (.bool true) w) := by
  by_cases h1 : 60 < s.size
  · have q1 : decide ((60 : Int) < (s.size : Int)) = true := by simp; omega
    clear h
    go_enter Try.func6, Try.ntmps6
    go_wp2_with fail
    refine Calls.mono (known19_c _) ?_
    rintro e w1 ⟨rfl, b1⟩
    go_wp2_with fail
    go_ret
    exact ⟨rfl, b1⟩
  · have q1 : decide ((60 : Int) < (s.size : Int)) = false := by simp; omega
    have q2 : decide ((60 : Int) < (t.size : Int)) = true := by simp; omega
    clear h h1
    go_enter Try.func6, Try.ntmps6
    go_wp2_with fail
    refine Calls.mono (known19_c _) ?_
    rintro e w1 ⟨rfl, b1⟩
    go_wp2_with fail
    go_ret
    exact ⟨rfl, b1⟩
theorem un_bad (w : World) (s t : ByteArray) (q1 : decide ((60 : Int) < (s.size : Int)) = false) (q2 : decide ((60 : Int) < (t.size : Int)) = false) (a1 a2 : Array Value) (e1 e2 : Int) (HE : (e1 = 0 ∧ e2 = 4) ∨ (e1 = 4 ∧ e2 = 0) ∨ (e1 = 4 ∧ e2 = 4)) (HS1 : Hid (a1.size = 32 ∧ a1.all (·.oneCell') = true)) (HS2 : Hid (a2.size = 32 ∧ a2.all (·.oneCell') = true))
    (HF1 : Hid (∀ W, Calls Try.prog 8 #[.string s] W (RetP (.tuple #[.agg a1, .int .i64 e1]) W))) (HF2 : Hid (∀ W, Calls Try.prog 8 #[.string t] W (RetP (.tuple #[.agg a2, .int .i64 e2]) W))) : Calls Try.prog 6 #[.string s, .string t] w (TruP (.bool true) w) := by
  obtain ⟨za, hza⟩ : ∃ za, za = nC zN := ⟨_, rfl⟩
  have hzero := zeroN
  rw [← hza] at hzero
  have HZS := Lib.hid (show za.size = 32 from by rw [hza]; exact nC_size zN_w)
  clear hza
  rcases HE with ⟨rfl, rfl⟩ | ⟨rfl, rfl⟩ | ⟨rfl, rfl⟩
  all_goals
    go_enter Try.func6, Try.ntmps6
    go_wp2_with fail
    refine Calls.mono (known19_c _) ?_
    rintro e w1 ⟨rfl, b1⟩
    have HB1 := Lib.hid b1
    clear b1
    go_wp2_with fail
    refine Calls.mono (HF1.out _) ?_
    rintro e w2 ⟨rfl, b2⟩
    have HB2 := Lib.hid (HB1.out.trans (b2.mono HB1.out.size))
    have HN2 := Lib.hid (Bk.new w2 24 za)
    have HW2 := Lib.hid (Gw.alloc w2 (.cells za 24))
    clear b2
    go_wp2_with (refine wp_storeN rfl _ _ rfl w2.heap.size a1 rfl rfl 24 za HN2.out HS1.out.1 HZS.out HS1.out.2 ?_; intro w3 k3 b3 o3; have HB3 := Lib.hid ((HB2.out.trans (HW2.out.mono HB2.out.size)).trans (b3 w.heap.size HB2.out.size)); clear k3 b3 o3)
    refine Calls.mono (HF2.out _) ?_
    rintro e w4 ⟨rfl, b4⟩
    have HB4 := Lib.hid (HB3.out.trans (b4.mono HB3.out.size))
    have HN4 := Lib.hid (Bk.new w4 24 za)
    have HW4 := Lib.hid (Gw.alloc w4 (.cells za 24))
    clear b4
    go_wp2_with (refine wp_storeN rfl _ _ rfl w4.heap.size a2 rfl rfl 24 za HN4.out HS2.out.1 HZS.out HS2.out.2 ?_; intro w5 k5 b5 o5; have HB5 := Lib.hid ((HB4.out.trans (HW4.out.mono HB4.out.size)).trans (b5 w.heap.size HB4.out.size)); clear k5 b5 o5)
    go_ret
    exact ⟨rfl, HB5.out⟩
theorem un_core (w : World) (s t : ByteArray) (q1 : decide ((60 : Int) < (s.size : Int)) = false) (q2 : decide ((60 : Int) < (t.size : Int)) = false) (a1 a2 : Array Value) (m1 m2 : Tb) (x v n : Int) (sm : Bool) (HS1 : Hid (a1.size = 32 ∧ a1.all (·.oneCell') = true)) (HS2 : Hid (a2.size = 32 ∧ a2.all (·.oneCell') = true))
    (HF1 : Hid (∀ W, Calls Try.prog 8 #[.string s] W (RetP (.tuple #[.agg a1, .int .i64 0]) W))) (HF2 : Hid (∀ W, Calls Try.prog 8 #[.string t] W (RetP (.tuple #[.agg a2, .int .i64 0]) W)))
    (HBA : Hid (∀ B W g, TbX B W g [] → B ≤ W.heap.size → Calls Try.prog 13 #[.pointer (some ⟨g, 0, none⟩), .agg a1, .int .i64 1] W (TbP B W g m1 (.tuple #[.int .i64 0, .int .i64 0]))))
    (HBB : Hid (∀ B W g, TbX B W g m1 → B ≤ W.heap.size → Calls Try.prog 13 #[.pointer (some ⟨g, 0, none⟩), .agg a2, .int .i64 2] W (TbP B W g m2 (.tuple #[.int .i64 x, .int .i64 0]))))
    (HL : Hid (∀ B W g, TbX B W g m2 → Calls Try.prog 15 #[.pointer (some ⟨g, 0, none⟩), .agg a1] W (RetP (.tuple #[.int .i64 v, .bool true]) W)))
    (HN : Hid (∀ B W g, TbX B W g m2 → Calls Try.prog 19 #[.pointer (some ⟨g, 0, none⟩)] W fun e w' => e = .returned (.int .i64 n) ∧ w' = W))
    (hq : (s.toList == t.toList) = sm) (heq : ∀ W, (Op.equalIn 10000 24 (.agg a1) (.agg a2)).run Try.prog W = .ok sm W) (hsm : (sm = true ∧ v = 2 ∧ n = 1) ∨ (sm = false ∧ v = 1 ∧ n = 2)) : Calls Try.prog 6 #[.string s, .string t] w (TruP (.bool true) w) := by
  obtain ⟨za, hza⟩ : ∃ za, za = nC zN := ⟨_, rfl⟩
  have hzero := zeroN
  rw [← hza] at hzero
  have HZS := Lib.hid (show za.size = 32 from by rw [hza]; exact nC_size zN_w)
  clear hza
  rcases hsm with ⟨rfl, rfl, rfl⟩ | ⟨rfl, rfl, rfl⟩
  all_goals
    go_enter Try.func6, Try.ntmps6
    go_wp2_with fail
    refine Calls.mono (known19_c _) ?_
    rintro e w1 ⟨rfl, b1⟩
    have HB1 := Lib.hid b1
    clear b1
    go_wp2_with fail
    refine Calls.mono (HF1.out _) ?_
    rintro e w2 ⟨rfl, b2⟩
    have HB2 := Lib.hid (HB1.out.trans (b2.mono HB1.out.size))
    have HN2 := Lib.hid (Bk.new w2 24 za)
    have HW2 := Lib.hid (Gw.alloc w2 (.cells za 24))
    obtain ⟨G1, hG1⟩ : ∃ G, G = w2.heap.size := ⟨_, rfl⟩
    have HG1 := Lib.hid hG1
    clear b2 hG1
    go_wp2_with (refine wp_storeN rfl _ _ rfl w2.heap.size a1 rfl rfl 24 za HN2.out HS1.out.1 HZS.out HS1.out.2 ?_; intro w3 k3 b3 o3; have HK3 := Lib.hid (show Bk w3 G1 24 a1 from HG1.out ▸ k3); have HB3 := Lib.hid ((HB2.out.trans (HW2.out.mono HB2.out.size)).trans (b3 w.heap.size HB2.out.size)); clear k3 b3 o3)
    refine Calls.mono (HF2.out _) ?_
    rintro e w4 ⟨rfl, b4⟩
    have HB4 := Lib.hid (HB3.out.trans (b4.mono HB3.out.size))
    have HK4 := Lib.hid (HK3.out.below b4 HK3.out.lt)
    have HN4 := Lib.hid (Bk.new w4 24 za)
    have HW4 := Lib.hid (Gw.alloc w4 (.cells za 24))
    obtain ⟨G2, hG2⟩ : ∃ G, G = w4.heap.size := ⟨_, rfl⟩
    have HG2 := Lib.hid hG2
    clear b4 hG2
    go_wp2_with (first
      | (refine wp_storeN rfl _ _ rfl w4.heap.size a2 rfl rfl 24 za HN4.out HS2.out.1 HZS.out HS2.out.2 ?_; intro w5 k5 b5 o5; have HQ5 := Lib.hid (show Bk w5 G2 24 a2 from HG2.out ▸ k5); have HK5 := Lib.hid (show Bk w5 G1 24 a1 from (o5 _ (by have := HK4.out.lt; omega)).trans (HK4.out.below HW4.out HK4.out.lt)); have HB5 := Lib.hid ((HB4.out.trans (HW4.out.mono HB4.out.size)).trans (b5 w.heap.size HB4.out.size)); have HK5a := Lib.hid (HK5.out.alloc (.cells #[.map none] 34)); have HQ5a := Lib.hid (HQ5.out.alloc (.cells #[.map none] 34)); clear k5 b5 o5)
      | (refine wp_loadG rfl _ rfl w2.heap.size rfl 24 a1 (by rw [← HG1.out]; exact HK5a.out) HS1.out.1 ?_))
    have HT5 := Lib.hid (TbX.new w5)
    have HB5a := Lib.hid (HB5.out.trans ((Gw.alloc w5 (.cells #[.map none] 34)).mono HB5.out.size))
    have HLT := Lib.hid (show G1 < w5.heap.size ∧ G2 < w5.heap.size ∧ w.heap.size ≤ w5.heap.size from ⟨HK5.out.lt, HQ5.out.lt, HB5.out.size⟩)
    have HBI := Lib.hid (HBA.out _ _ _ HT5.out (by simp))
    obtain ⟨g, hg⟩ : ∃ g, g = w5.heap.size := ⟨_, rfl⟩
    rw [← hg] at HT5 HLT HBI ⊢
    rw [← HG1.out, ← HG2.out]
    clear hg HK3 HK4 HK5 HQ5 HN2 HN4 HW2 HW4 HB1 HB2 HB3 HB4 HB5 HG1 HG2
    refine Calls.mono HBI.out ?_
    rintro e w6 ⟨rfl, t6, b6⟩
    have HT6 := Lib.hid t6
    have HK6 := Lib.hid (HK5a.out.below b6 HLT.out.1)
    have HQ6 := Lib.hid (HQ5a.out.below b6 HLT.out.2.1)
    have HB6 := Lib.hid (HB5a.out.trans (b6.mono HLT.out.2.2))
    have HBI6 := Lib.hid (HBB.out _ _ _ t6 (Nat.le_of_lt t6.lt))
    clear t6 b6 HBI HT5 HK5a HQ5a HB5a
    go_wp2_with (refine wp_loadG rfl _ rfl G2 rfl 24 a2 HQ6.out HS2.out.1 ?_)
    refine Calls.mono HBI6.out ?_
    rintro e w7 ⟨rfl, t7, b7⟩
    have HK7 := Lib.hid (HK6.out.below b7 HLT.out.1)
    have HQ7 := Lib.hid (HQ6.out.below b7 HLT.out.2.1)
    have HB7 := Lib.hid (HB6.out.trans (b7.mono HLT.out.2.2))
    have HL7 := Lib.hid (HL.out _ _ _ t7)
    have HT7 := Lib.hid t7
    clear t7 b7 HBI6 HT6 HK6 HB6 HQ6
    go_wp2_with (refine wp_loadG rfl _ rfl G1 rfl 24 a1 HK7.out HS1.out.1 ?_)
    refine Calls.mono HL7.out ?_
    rintro e w8 ⟨rfl, b8'⟩
    have HT8 := Lib.hid (HT7.out.below b8')
    have HK8 := Lib.hid (HK7.out.below b8' HK7.out.lt)
    have HQ8 := Lib.hid (HQ7.out.below b8' HQ7.out.lt)
    have HB8 := Lib.hid (HB7.out.trans (b8'.mono HB7.out.size))
    clear b8' HL7 HT7 HK7 HB7 HQ7
    go_wp2_with (first
      | (refine wp_loadG rfl _ rfl G1 rfl 24 a1 HK8.out HS1.out.1 ?_)
      | (refine wp_loadG rfl _ rfl G2 rfl 24 a2 HQ8.out HS2.out.1 ?_))
    refine Calls.mono (HN.out _ _ _ HT8.out) ?_
    rintro e w9 ⟨rfl, rfl⟩
    go_wp2_with fail
    go_ret
    exact ⟨rfl, HB8.out⟩
theorem un_walk (w : World) (s : ByteArray) (_h : s.size ≤ maxLen) (t : ByteArray) (_h2 : t.size ≤ maxLen) : Calls Try.prog 6 #[.string s, .string t] w (TruP (.bool true) w) := by
  by_cases h : 60 < s.size ∨ 60 < t.size
  · exact un_far w s t h
  · have q1 : decide ((60 : Int) < (s.size : Int)) = false := by simp; omega
    have q2 : decide ((60 : Int) < (t.size : Int)) = false := by simp; omega
    clear h
    obtain ⟨xs, rfl⟩ := strB_of s
    obtain ⟨bs, rfl⟩ := strB_of t
    have zs : Hid ((nC zN).size = 32 ∧ (nC zN).all (·.oneCell') = true) := Lib.hid ⟨nC_size zN_w, nC_one zN⟩
    by_cases ga : goodN xs
    · have ha := padN_w ga.2.1
      have sa : Hid ((nC (padN xs)).size = 32 ∧ (nC (padN xs)).all (·.oneCell') = true) := Lib.hid ⟨nC_size ha, nC_one _⟩
      by_cases gb : goodN bs
      · have hb := padN_w gb.2.1
        have sb : Hid ((nC (padN bs)).size = 32 ∧ (nC (padN bs)).all (·.oneCell') = true) := Lib.hid ⟨nC_size hb, nC_one _⟩
        have hBA : ∀ B W g, TbX B W g [] → B ≤ W.heap.size → Calls Try.prog 13 #[.pointer (some ⟨g, 0, none⟩), .agg (nC (padN xs)), .int .i64 1] W (TbP B W g [(padN xs, 1)] (.tuple #[.int .i64 0, .int .i64 0])) := fun B W g h hB => bind_ok h hB xs ga 1 (by decide) (by decide) (by decide) (.inr (by decide))
        by_cases e : xs = bs
        · subst e
          refine un_core w _ _ q1 q2 _ _ [(padN xs, 1)] [(padN xs, 2)] 1 2 1 true sa sa (Lib.hid (fun W => fix_ok xs W ga)) (Lib.hid (fun W => fix_ok xs W ga)) (Lib.hid hBA) (Lib.hid (fun B W g h hB => ?_)) (Lib.hid (fun B W g h => look_c h (padN xs) ha 2 true (by rw [vOf_one]; rfl) (by rw [vOf_one]; rfl))) (Lib.hid (fun B W g h => len_c h)) (by rw [str_eq]; simp) (fun W => by rw [eqN _ _ ha ha]; simp) (.inl ⟨rfl, rfl, rfl⟩)
          have := bind_ok h hB xs ga 2 (by decide) (by decide) (by simp) (.inr (by simp))
          rw [set_one, vOf_one] at this
          exact this
        · have hne : padN xs ≠ padN bs := fun h => e (by rw [← good_cut ga, ← good_cut gb, h])
          have hset : setN [(padN xs, (1 : Int))] (padN bs) 2 = [(padN xs, 1), (padN bs, 2)] := by
            unfold setN; rw [if_neg hne]; rfl
          have hvo : vOf [(padN xs, (1 : Int))] (padN bs) = none := by
            unfold vOf; rw [if_neg hne]; rfl
          have hv1 : vOf [(padN xs, (1 : Int)), (padN bs, 2)] (padN xs) = some 1 := by unfold vOf; rw [if_pos rfl]
          refine un_core w _ _ q1 q2 _ _ [(padN xs, 1)] [(padN xs, 1), (padN bs, 2)] 0 1 2 false sa sb (Lib.hid (fun W => fix_ok xs W ga)) (Lib.hid (fun W => fix_ok bs W gb)) (Lib.hid hBA) (Lib.hid (fun B W g h hB => ?_)) (Lib.hid (fun B W g h => look_c h (padN xs) ha 1 true (by rw [hv1]; rfl) (by rw [hv1]; rfl))) (Lib.hid (fun B W g h => len_c h)) (by rw [str_eq]; simp [e]) (fun W => by rw [eqN _ _ ha hb]; simp [hne]) (.inr ⟨rfl, rfl, rfl⟩)
          have := bind_ok h hB bs gb 2 (by decide) (by decide) (by simp) (.inr (by simp))
          rw [hset, hvo] at this
          exact this
      · exact un_bad w _ _ q1 q2 _ _ 0 4 (.inl ⟨rfl, rfl⟩) sa zs (Lib.hid (fun W => fix_ok xs W ga)) (Lib.hid (fun W => fix_bad bs W gb))
    · by_cases gb : goodN bs
      · have hb := padN_w gb.2.1
        have sb : Hid ((nC (padN bs)).size = 32 ∧ (nC (padN bs)).all (·.oneCell') = true) := Lib.hid ⟨nC_size hb, nC_one _⟩
        exact un_bad w _ _ q1 q2 _ _ 4 0 (.inr (.inl ⟨rfl, rfl⟩)) zs sb (Lib.hid (fun W => fix_bad xs W ga)) (Lib.hid (fun W => fix_ok bs W gb))
      · exact un_bad w _ _ q1 q2 _ _ 4 4 (.inr (.inr ⟨rfl, rfl⟩)) zs zs (Lib.hid (fun W => fix_bad xs W ga)) (Lib.hid (fun W => fix_bad bs W gb))
end Go.Proofs.Ytdfhdgdhhgabbaa
namespace Go.Proofs.Ytdfhdgdhhgabbaa.nameUnlike
open Go.ChangeShapes Go.WideShapes Go.ChangeAt Go.RowKit
open Go.ChangeMaps (open_string shut_string)
set_option linter.unusedVariables false
set_option maxRecDepth 100000 in
theorem lifted (os : Os) (started : os.Started) (H : Type) (enc : TypeId × Value → H) :
    ReturnsInHanded {} Try.checked os 6 .any (Rows.nameUnlikeSpec.pre6 enc Try.prog Try.f6 Rows.nameUnlikeRow.domain false) (Rows.nameUnlikeSpec.post enc Try.prog Try.f6 false true false false) := by
  refine returnsInHanded_of_change (C := Try.checked) own started (by kernel_rfl) Try.func6
    (ChangeSpec.witness6 (enc := enc) (C := Try.checked) false ⟨#[], #[.string ⟨#[]⟩, .string ⟨#[]⟩], []⟩ 8 (by kernel_rfl) (by kernel_rfl) (by kernel_rfl) (by kernel_rfl)) ?_
  intro W base args ds gs before hval0 hW hcnd _
  have hval : ∀ (j : Nat) t v, Try.f6.params[j]? = some t → args[j]? = some v → Value.okWide Try.prog W .any base t v := hval0
  have hW' := hW
  obtain ⟨p, q, hA0, hV, rfl, hfz, hnd⟩ := hW
  have hA : DataW.TrodAll enc Try.prog W 0 (fun _ => true) true Try.f6.params.toList args.toList ds p := hA0
  rw [Try.params6] at hA hval
  obtain ⟨v0, vs0, d0, ds0, p0, q0, hargs, rfl, rfl, h0, r0⟩ := trodAll_cons hA
  obtain ⟨v1, vs1, d1, ds1, p1, q1, rfl, rfl, rfl, h1, r1⟩ := trodAll_cons r0
  obtain ⟨rfl, rfl, rfl⟩ := trodAll_nil r1
  obtain rfl : args = #[v0, v1] := by cases args; simp_all
  obtain ⟨rfl, rfl⟩ := trodVars_none hV
  have k0 := h0
  have lt0 : ∀ x ∈ p0, x.block < W.heap.size := by obtain ⟨m, hm⟩ := k0; exact DataW.trod_lt m _ _ _ hm
  obtain ⟨a0, e0v, _, _, w0⟩ := open_string Try.underlying9 (hval 0 9 v0 rfl rfl) h0; subst e0v
  have k1 := h1
  have lt1 : ∀ x ∈ p1, x.block < W.heap.size := by obtain ⟨m, hm⟩ := k1; exact DataW.trod_lt m _ _ _ hm
  obtain ⟨a1, e1v, _, _, w1⟩ := open_string Try.underlying9 (hval 1 9 v1 rfl rfl) h1; subst e1v
  clear hA0 hval0
  refine (un_walk W a0 w0 a1 w1).mono fun e W' ⟨he, bel⟩ => ?_
  subst he
  exact ⟨_, rfl, _, _, _, [], _, [], hW', trodAll_mk1 (shut_bool Try.underlying4 _), (trodAll_cons_mk (Below.trod laidOut (by kernel_rfl) (of_decide_eq_true (by kernel_rfl)) k0 bel lt0) (trodAll_cons_mk (Below.trod laidOut (by kernel_rfl) (of_decide_eq_true (by kernel_rfl)) k1 bel lt1) trodAll_mk0)), rfl, bel.frame _, fun h => by cases h⟩
theorem over : Rows.nameUnlikeRow.holds Try.pinned (OpenSpec.ofChange Rows.nameUnlikeSpec) :=
  OpenClaim.holds_of_wide 6 Try.f6 rfl rfl rfl rfl rfl rfl rfl ⟨rfl, rfl, rfl, rfl, rfl⟩ rfl rfl rfl rfl rfl (by kernel_rfl) Try.func6 (by kernel_rfl)
    (of_decide_eq_true (by kernel_rfl)) (by unfold Func.isWrapper; first | (rw [if_pos (by decide +kernel)]; kernel_rfl) | (rw [if_neg (by decide +kernel)]; exact ⟨rfl, rfl⟩))
    (fun os started H enc _ => lifted os started H enc)
theorem proved : Rows.NameUnlikeSaid := over
end Go.Proofs.Ytdfhdgdhhgabbaa.nameUnlike
