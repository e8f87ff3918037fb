/- The law CacheKeeps of layer 11 returns true for every argument. No conditions. -/
import Derived.Test.YthmaofbnhfgfaaaCmR
import Derived.Test.YthmaofbnhfgfaaaOpenZ
import Derived.Test.YthmaofbnhfgfaaaFrame
namespace Go.Proofs.Ythmaofbnhfgfaaa
set_option linter.unusedVariables false
set_option linter.unusedSimpArgs false
open Go.RowKit Go.Maps
set_option maxHeartbeats 4000000
set_option maxRecDepth 100000
theorem want_t {aq : List Bool} {m : Nat} {t : Int} (_ : 1 ≤ m) (h : WantIs aq m t) (ha : aq.getD m false = true) : WantIs aq (m + 1) t := by
  rcases h with ⟨rfl, h⟩ | ⟨u, rfl, u1, u2, u3, u4⟩
  · refine .inl ⟨rfl, fun j a b => ?_⟩
    by_cases e : j = m
    · rw [e]; exact ha
    · exact h j a (by omega)
  · exact .inr ⟨u, rfl, u1, by omega, u3, u4⟩
theorem want_f {aq : List Bool} {m : Nat} {t : Int} (h1 : 1 ≤ m) (h : WantIs aq m t) (ha : aq.getD m false = false) (ht : t < 0) : WantIs aq (m + 1) (m : Int) := by
  rcases h with ⟨rfl, h⟩ | ⟨u, rfl, u1, u2, u3, u4⟩
  · exact .inr ⟨m, rfl, h1, by omega, ha, h⟩
  · omega
theorem want_g {aq : List Bool} {m : Nat} {t : Int} (h : WantIs aq m t) (ht : ¬ t < 0) : WantIs aq (m + 1) t := by
  rcases h with ⟨rfl, h⟩ | ⟨u, rfl, u1, u2, u3, u4⟩
  · omega
  · exact .inr ⟨u, rfl, u1, by omega, u3, u4⟩
theorem keeps_bad (w : World) (a : Int) (A : Option Addr) (n c : Nat) (h : a < 1 ∨ 64 < a ∨ (n : Int) < a ∨ 100 < n) : Calls Try.prog 3 #[.int .i64 a, .slice A n c] w (TruP (.bool true) w) := by
  by_cases h1 : a < 1
  · have t1 : decide (a < 1) = true := by simpa using h1
    clear h h1
    go_enter Try.func3, Try.ntmps3
    go_wp2_with fail
    refine Calls.mono (known11_c w) ?_
    rintro e w1 ⟨rfl, d1⟩
    have HB1 := Lib.hid d1
    clear d1
    go_wp2_with fail
    go_ret
    exact ⟨rfl, HB1.out⟩
  have t1 : decide (a < 1) = false := by simpa using h1
  by_cases h2 : 64 < a
  · have t2 : decide (64 < a) = true := by simpa using h2
    clear h h1 h2
    go_enter Try.func3, Try.ntmps3
    go_wp2_with fail
    refine Calls.mono (known11_c w) ?_
    rintro e w1 ⟨rfl, d1⟩
    have HB1 := Lib.hid d1
    clear d1
    go_wp2_with fail
    go_ret
    exact ⟨rfl, HB1.out⟩
  have t2 : decide (64 < a) = false := by simpa using h2
  by_cases h3 : (n : Int) < a
  · have t3 : decide ((n : Int) < a) = true := by simpa using h3
    clear h h1 h2 h3
    go_enter Try.func3, Try.ntmps3
    go_wp2_with fail
    refine Calls.mono (known11_c w) ?_
    rintro e w1 ⟨rfl, d1⟩
    have HB1 := Lib.hid d1
    clear d1
    go_wp2_with fail
    go_ret
    exact ⟨rfl, HB1.out⟩
  have t3 : decide ((n : Int) < a) = false := by simpa using h3
  have t4 : decide ((100 : Int) < (n : Int)) = true := by simp; omega
  clear h h1 h2 h3
  go_enter Try.func3, Try.ntmps3
  go_wp2_with fail
  refine Calls.mono (known11_c w) ?_
  rintro e w1 ⟨rfl, d1⟩
  have HB1 := Lib.hid d1
  clear d1
  go_wp2_with fail
  go_ret
  exact ⟨rfl, HB1.out⟩
theorem keeps_in (w : World) (N : Nat) (A : Option Addr) (aq : List Bool) (n c : Nat) (hn : n = aq.length) (h1 : 1 ≤ N) (h2 : N ≤ 64) (h3 : N ≤ n) (h4 : n ≤ 100) (hr : Rd boZ w w.heap.size A aq) : Calls Try.prog 3 #[.int .i64 N, .slice A n c] w (TruP (.bool true) w) := by
  have t1 : decide ((N : Int) < 1) = false := by simp; omega
  have t2 : decide (64 < (N : Int)) = false := by simp; omega
  have t3 : decide ((n : Int) < (N : Int)) = false := by simp; omega
  have t3n : decide (n < N) = false := by simp; omega
  have t3m : ¬ n < N := by omega
  have t4 : decide ((100 : Int) < (n : Int)) = false := by simp; omega
  obtain ⟨ad, hA, hab, hc0⟩ := hr 0 (by omega)
  clear hc0
  subst hA
  have hcell : ∀ V, Below w.heap.size w V → ∀ j, j < N → V.cell? (ad.add j) = some (.bool (aq.getD j false)) := fun V hV j hj => by
    have hjl : j < aq.length := by omega
    obtain ⟨ad', e, _, hc⟩ := hr j hjl
    injection e with e
    subst e
    rw [List.getD_eq_getElem?_getD, List.getElem?_eq_getElem hjl]
    exact (hV.cell (p := ad.add j) (by rw [add_block]; exact hab)).trans hc
  have HC := Lib.hid hcell
  have HN := Lib.hid (show 1 ≤ N ∧ N ≤ 64 ∧ N ≤ n from ⟨h1, h2, h3⟩)
  have HNew := Lib.hid (fun w => new_c w N h1 h2)
  clear hr hab hcell hn h1 h2 h3 h4
  go_enter Try.func3, Try.ntmps3
  go_wp2_with fail
  refine Calls.mono (known11_c w) ?_
  rintro e w1 ⟨rfl, d1⟩
  have HB1 := Lib.hid d1
  clear d1
  go_wp2_with fail
  refine Calls.mono (HNew.out _) ?_
  rintro e w2 ⟨g, fb, mb, rfl, h2, x2, b2⟩
  have hlt : ∀ k, Cx g fb mb k → k < w2.heap.size := fun k e => by
    have a1 := h2.blk.lt
    have a2 := h2.fr.lt
    have a3 := h2.map.lt
    rcases e with e | e | e <;> omega
  have HX := Lib.hid (show (∀ k, Cx g fb mb k → w.heap.size ≤ k ∧ k < w2.heap.size) ∧ Below w.heap.size w w2 from ⟨fun k e => ⟨Nat.le_trans HB1.out.size (x2 k e), hlt k e⟩, HB1.out.trans (b2.mono HB1.out.size)⟩)
  have HW := Lib.hid (show ∀ V, Kept (Cx g fb mb) w2 V → Below w.heap.size w V from fun V hV => HX.out.2.trans (hV.below HX.out.2.size (fun j e => (HX.out.1 j e).1)))
  have H2 := Lib.hid (k1_zero h2)
  clear h2 x2 b2 hlt HNew
  go_wp2_with fail
  go_loopw [7] (fun i wr => ∃ k : Nat, k ≤ N ∧ i = .int .i64 k ∧ Hid (K1 g fb mb N k wr ∧ Kept (Cx g fb mb) w2 wr)) (fun i _ => N - (Go.RowKit.intOf i).toNat)
  case atStart => exact ⟨0, by omega, rfl, Lib.hid ⟨H2.out, Kept.refl _ _⟩⟩
  case round =>
    obtain ⟨k, hk, rfl, HK⟩ := hrel
    by_cases hlt : k < N
    · have lt1 : (k : Int) < (N : Int) := by omega
      have lt2 : (0 : Int) ≤ (k : Int) := by omega
      have lt3 : (k : Int) ≤ 64 := by have := HN.out; omega
      have kw8 : IntKind.u8.wrap (k : Int) = (k : Int) := by rw [IntKind.wrap]; simp [IntKind.bits, IntKind.signed]; omega
      obtain ⟨x, hx⟩ : ∃ x : BitVec 8, b8 x = .int .u8 (k : Int) := ⟨BitVec.ofNat 8 k, by unfold b8 U8; rw [BitVec.toNat_ofNat, Nat.mod_eq_of_lt (by have := HN.out; omega)]⟩
      have hb3 := Gw.alloc wr (.cells #[.int .u8 (k : Int)] 5)
      have HP := Lib.hid (put1 k hlt HN.out.2.1 (HK.out.1.below hb3) (some ⟨wr.heap.size, 0, none⟩) x 1 ((by_rd wr x k hx (0, 0)).more (by simp)) (fun a e e2 => by
        injection e with e
        have := (HX.out.1 _ e2).2
        have := HK.out.2.size
        rw [← e] at *
        simp at *
        omega))
      have HK3 := Lib.hid (HK.out.2.trans (Kept.of_below hb3 _))
      clear hb3 hlt hx
      go_wp2_with fail
      refine Calls.mono HP.out ?_
      rintro e w3 ⟨rfl, h3, k3⟩
      have H4 := Lib.hid (show ∀ o, K1 g fb mb N (k + 1) (w3.alloc o) ∧ Kept (Cx g fb mb) w2 (w3.alloc o) from fun o => ⟨h3.below (Gw.alloc w3 o), (HK3.out.trans k3).trans (Kept.alloc _ _ _)⟩)
      clear h3 k3 HP HK3 HK
      go_wp2_with fail
      exact ⟨⟨k + 1, by omega, by simp, Lib.hid (H4.out _)⟩, by simp only [Go.RowKit.intOf]; omega⟩
    · have hkN : k = N := by omega
      subst hkN
      have l1 : decide ((k : Int) < (k : Int)) = false := by simp
      have HP := Lib.hid (put2 aq HN.out.1 HN.out.2.1 HK.out.1)
      clear hlt hk
      go_wp2_with fail
      refine Calls.mono HP.out ?_
      rintro e w4 ⟨A4, n4, c4, d4, rfl, h4, k4⟩
      obtain ⟨W5, hW5⟩ : ∃ W, W = w4.alloc (.cells #[.int .i64 0, .int .i64 0, .slice A4 n4 c4, .bool d4, .bool true] 32) := ⟨_, rfl⟩
      obtain ⟨ob, hob⟩ : ∃ o, o = w4.heap.size := ⟨_, rfl⟩
      have hb5 : Below w4.heap.size w4 W5 := by rw [hW5]; exact Gw.alloc w4 _
      have hk4 := HK.out.2.trans k4
      have H5 := Lib.hid (show K2s g fb mb k aq 1 W5 ∧ Kept (Cx g fb mb) w2 W5 ∧ Bk W5 ob 32 #[.int .i64 0, .int .i64 0, .slice A4 n4 c4, .bool d4, .bool true] from ⟨h4.below hb5, hk4.trans (Kept.of_below hb5 _), by rw [hW5, hob]; exact Bk.new w4 _ _⟩)
      have HO := Lib.hid (show ¬ Cx g fb mb ob ∧ w2.heap.size ≤ ob from ⟨fun e => by have := (HX.out.1 _ e).2; have := hk4.size; omega, by rw [hob]; exact hk4.size⟩)
      have HW5 := Lib.hid (And.intro hW5 hob)
      clear h4 k4 hb5 hk4 hW5 hob HP HK
      go_wp2_with fail
      rw [← HW5.out.1, ← HW5.out.2]
      go_loopw [12, 13] (fun a b wr => ∃ (m : Nat) (t : Int), 1 ≤ m ∧ m ≤ k ∧ a = .int .i64 t ∧ b = .int .i64 m ∧ Hid (K2s g fb mb k aq m wr ∧ Kept (Cx g fb mb) w2 wr ∧ Bk wr ob 32 #[.int .i64 0, .int .i64 0, .slice A4 n4 c4, .bool d4, .bool true] ∧ WantIs aq m t)) (fun _ b _ => k - (Go.RowKit.intOf b).toNat)
      case atStart => exact ⟨1, -1, Nat.le_refl _, HN.out.1, rfl, rfl, Lib.hid ⟨H5.out.1, H5.out.2.1, H5.out.2.2, .inl ⟨rfl, fun j a b => by omega⟩⟩⟩
      case round =>
        obtain ⟨m, t, h1m, hmk, rfl, rfl, HM⟩ := hrel
        by_cases hlt : m < k
        · have hc := HC.out wr (HW.out wr HM.out.2.1) m hlt
          have lt1 : (m : Int) < (k : Int) := by omega
          have lt2 : (0 : Int) ≤ (m : Int) := by omega
          have lt3 : (m : Int) ≤ 64 := by have := HN.out; omega
          have lt4 : (m : Int) < (n : Int) := by have := HN.out; omega
          cases ha : aq.getD m false with
          | true =>
            rw [ha] at hc
            have HG := Lib.hid (get2 h1m hlt HN.out.2.1 HM.out.1 ha)
            have HT := Lib.hid (want_t h1m HM.out.2.2.2 ha)
            clear ha
            go_wp2_with fail
            refine Calls.mono HG.out ?_
            rintro e w6 ⟨A6, n6, c6, rfl, h6, k6⟩
            have H6 := Lib.hid (show K2s g fb mb k aq (m + 1) w6 ∧ Kept (Cx g fb mb) w2 w6 ∧ Bk w6 ob 32 #[.int .i64 0, .int .i64 0, .slice A4 n4 c4, .bool d4, .bool true] ∧ WantIs aq (m + 1) t from ⟨h6, HM.out.2.1.trans k6, k6.bk HM.out.2.2.1 HO.out.1, HT.out⟩)
            clear h6 k6 hc
            go_wp2_with fail
            exact ⟨⟨m + 1, t, by omega, by omega, rfl, by simp, H6⟩, by simp only [Go.RowKit.intOf]; omega⟩
          | false =>
            rw [ha] at hc
            by_cases ht : t < 0
            · have td : decide (t < 0) = true := by simpa using ht
              have H6 := Lib.hid (show K2s g fb mb k aq (m + 1) wr ∧ Kept (Cx g fb mb) w2 wr ∧ Bk wr ob 32 #[.int .i64 0, .int .i64 0, .slice A4 n4 c4, .bool d4, .bool true] ∧ WantIs aq (m + 1) (m : Int) from ⟨skip2 HM.out.1 ha, HM.out.2.1, HM.out.2.2.1, want_f h1m HM.out.2.2.2 ha ht⟩)
              clear ha ht
              go_wp2_with fail
              exact ⟨⟨m + 1, m, by omega, by omega, rfl, by simp, H6⟩, by simp only [Go.RowKit.intOf]; omega⟩
            · have td : decide (t < 0) = false := by simpa using ht
              have H6 := Lib.hid (show K2s g fb mb k aq (m + 1) wr ∧ Kept (Cx g fb mb) w2 wr ∧ Bk wr ob 32 #[.int .i64 0, .int .i64 0, .slice A4 n4 c4, .bool d4, .bool true] ∧ WantIs aq (m + 1) t from ⟨skip2 HM.out.1 ha, HM.out.2.1, HM.out.2.2.1, want_g HM.out.2.2.2 ht⟩)
              clear ha ht
              go_wp2_with fail
              exact ⟨⟨m + 1, t, by omega, by omega, rfl, by simp, H6⟩, by simp only [Go.RowKit.intOf]; omega⟩
        · have hmN : m = k := by omega
          subst hmN
          have l2 : decide ((m : Int) < (m : Int)) = false := by simp
          clear hlt hmk
          by_cases ht : t < 0
          · have td : decide (t < 0) = true := by simpa using ht
            clear ht
            have HP3 := Lib.hid (put3 HN.out.1 HN.out.2.1 HM.out.1 t HM.out.2.2.2)
            go_wp2_with fail
            refine Calls.mono HP3.out ?_
            rintro e w7 ⟨x, z, A7, n7, c7, d7, rfl, hz, ⟨fs, tb, hand, h7, ht7⟩, k7⟩
            have H7 := Lib.hid (show CaAt w7 g fb mb m fs hand tb none ∧ tb.length = m ∧ Kept (Cx g fb mb) w2 w7 ∧ Bk w7 ob 32 #[.int .i64 0, .int .i64 0, .slice A4 n4 c4, .bool d4, .bool true] from ⟨h7, ht7, HM.out.2.1.trans k7, k7.bk HM.out.2.2.1 HO.out.1⟩)
            clear hz
            clear h7 ht7 k7 HP3
            go_wp2_with (refine wp_stR rfl 32 (.tmp 10) (.tmp 98) rfl ob #[.int .i64 x, .int .i64 z, .slice A7 n7 c7, .bool d7, .bool true] rfl rfl 32 #[.int .i64 0, .int .i64 0, .slice A4 n4 c4, .bool d4, .bool true] H7.out.2.2.2 (by kernel_rfl) rfl (by simp [Value.oneCell']) ?_; intro w8 k8 _ o8; have HL := Lib.hid (len_c (H7.out.1.out5 H7.out.2.2.2 o8 HO.out.1)); rw [H7.out.2.1] at HL; have HE := Lib.hid (HW.out w8 (H7.out.2.2.1.newer o8 HO.out.2)); obtain ⟨z0, z1, z2, z3, z4⟩ := k8.fiveG; clear k8 o8)
            refine Calls.mono HL.out ?_
            rintro e w9 ⟨rfl, rfl⟩
            go_wp2_with fail
            go_ret
            exact ⟨rfl, HE.out⟩
          · have td : decide (t < 0) = false := by simpa using ht
            have HP3 := Lib.hid (put3 HN.out.1 HN.out.2.1 HM.out.1 t HM.out.2.2.2)
            go_wp2_with fail
            refine Calls.mono HP3.out ?_
            rintro e w7 ⟨x, z, A7, n7, c7, d7, rfl, hz, ⟨fs, tb, hand, h7, ht7⟩, k7⟩
            have H7 := Lib.hid (show CaAt w7 g fb mb m fs hand tb none ∧ tb.length = m ∧ Kept (Cx g fb mb) w2 w7 ∧ Bk w7 ob 32 #[.int .i64 0, .int .i64 0, .slice A4 n4 c4, .bool d4, .bool true] from ⟨h7, ht7, HM.out.2.1.trans k7, k7.bk HM.out.2.2.1 HO.out.1⟩)
            have hz := hz (by omega)
            subst hz
            clear ht
            clear h7 ht7 k7 HP3
            go_wp2_with (refine wp_stR rfl 32 (.tmp 10) (.tmp 98) rfl ob #[.int .i64 x, .int .i64 z, .slice A7 n7 c7, .bool d7, .bool true] rfl rfl 32 #[.int .i64 0, .int .i64 0, .slice A4 n4 c4, .bool d4, .bool true] H7.out.2.2.2 (by kernel_rfl) rfl (by simp [Value.oneCell']) ?_; intro w8 k8 _ o8; have HL := Lib.hid (len_c (H7.out.1.out5 H7.out.2.2.2 o8 HO.out.1)); rw [H7.out.2.1] at HL; have HE := Lib.hid (HW.out w8 (H7.out.2.2.1.newer o8 HO.out.2)); obtain ⟨z0, z1, z2, z3, z4⟩ := k8.fiveG; clear k8 o8)
            refine Calls.mono HL.out ?_
            rintro e w9 ⟨rfl, rfl⟩
            go_wp2_with fail
            go_ret
            exact ⟨rfl, HE.out⟩
theorem keeps_w (w : World) (a : Int) (wa : (Lit.int .i64 a).wf = true) (A : Option Addr) (aq : List Bool) (c : Nat) (_ : aq.length ≤ c) (_ : c ≤ maxLen) (hr : Rd boZ w w.heap.size A aq ∧ ∀ a, A = some a → a.block < w.heap.size) : Calls Try.prog 3 #[.int .i64 a, .slice A aq.length c] w (TruP (.bool true) w) := by
  by_cases h : a < 1 ∨ 64 < a ∨ (aq.length : Int) < a ∨ 100 < aq.length
  · exact keeps_bad w a A _ c h
  · obtain ⟨N, rfl⟩ : ∃ N : Nat, a = (N : Int) := ⟨a.toNat, by omega⟩
    exact keeps_in w N A aq _ c rfl (by omega) (by omega) (by omega) (by omega) hr.1
end Go.Proofs.Ythmaofbnhfgfaaa
namespace Go.Proofs.Ythmaofbnhfgfaaa.cacheKeeps
open Go.ChangeShapes Go.WideShapes Go.ChangeAt Go.RowKit
open Go.ChangeMaps (open_string shut_string)
set_option linter.unusedVariables false
set_option maxRecDepth 100000 in
theorem lifted (os : Os) (started : os.Started) (H : Type) (enc : TypeId × Value → H) :
    ReturnsInHanded {} Try.checked os 3 .any (Rows.cacheKeepsSpec.pre6 enc Try.prog Try.f3 Rows.cacheKeepsRow.domain false) (Rows.cacheKeepsSpec.post enc Try.prog Try.f3 false true false false) := by
  refine returnsInHanded_of_change (C := Try.checked) own started (by kernel_rfl) Try.func3
    (ChangeSpec.witness6 (enc := enc) (C := Try.checked) false ⟨#[], #[.int .i64 0, .slice none 0 0], []⟩ 8 (by kernel_rfl) (by kernel_rfl) (by kernel_rfl) (by kernel_rfl)) ?_
  intro W base args ds gs before hval0 hW hcnd _
  have hval : ∀ (j : Nat) t v, Try.f3.params[j]? = some t → args[j]? = some v → Value.okWide Try.prog W .any base t v := hval0
  have hW' := hW
  obtain ⟨p, q, hA0, hV, rfl, hfz, hnd⟩ := hW
  have hA : DataW.TrodAll enc Try.prog W 0 (fun _ => true) true Try.f3.params.toList args.toList ds p := hA0
  rw [Try.params3] at hA hval
  obtain ⟨v0, vs0, d0, ds0, p0, q0, hargs, rfl, rfl, h0, r0⟩ := trodAll_cons hA
  obtain ⟨v1, vs1, d1, ds1, p1, q1, rfl, rfl, rfl, h1, r1⟩ := trodAll_cons r0
  obtain ⟨rfl, rfl, rfl⟩ := trodAll_nil r1
  obtain rfl : args = #[v0, v1] := by cases args; simp_all
  obtain ⟨rfl, rfl⟩ := trodVars_none hV
  have k0 := h0
  have lt0 : ∀ x ∈ p0, x.block < W.heap.size := by obtain ⟨m, hm⟩ := k0; exact DataW.trod_lt m _ _ _ hm
  obtain ⟨a0, e0v, _, _, w0⟩ := open_int Try.underlying3 (hval 0 3 v0 rfl rfl) h0; subst e0v
  have k1 := h1
  have lt1 : ∀ x ∈ p1, x.block < W.heap.size := by obtain ⟨m, hm⟩ := k1; exact DataW.trod_lt m _ _ _ hm
  obtain ⟨A1, a1, c1, e1v, g1, m1, w1⟩ := open_bools Try.underlying22 Try.underlying4 (by kernel_rfl) (hval 1 22 v1 rfl rfl) h1; subst e1v
  clear hA0 hval0
  refine (keeps_w W a0 w0 A1 a1 c1 g1 m1 w1).mono fun e W' ⟨he, bel⟩ => ?_
  subst he
  exact ⟨_, rfl, _, _, _, [], _, [], hW', trodAll_mk1 (shut_bool Try.underlying4 _), (trodAll_cons_mk (Below.trod laidOut (by kernel_rfl) (of_decide_eq_true (by kernel_rfl)) k0 bel lt0) (trodAll_cons_mk (Below.trod laidOut (by kernel_rfl) (of_decide_eq_true (by kernel_rfl)) k1 bel lt1) trodAll_mk0)), rfl, bel.frame _, fun h => by cases h⟩
theorem over : Rows.cacheKeepsRow.holds Try.pinned (OpenSpec.ofChange Rows.cacheKeepsSpec) :=
  OpenClaim.holds_of_wide 3 Try.f3 rfl rfl rfl rfl rfl rfl rfl ⟨rfl, rfl, rfl, rfl, rfl⟩ rfl rfl rfl rfl rfl (by kernel_rfl) Try.func3 (by kernel_rfl)
    (of_decide_eq_true (by kernel_rfl)) (by unfold Func.isWrapper; first | (rw [if_pos (by decide +kernel)]; kernel_rfl) | (rw [if_neg (by decide +kernel)]; exact ⟨rfl, rfl⟩))
    (fun os started H enc _ => lifted os started H enc)
theorem proved : Rows.CacheKeepsSaid := over
end Go.Proofs.Ythmaofbnhfgfaaa.cacheKeeps
