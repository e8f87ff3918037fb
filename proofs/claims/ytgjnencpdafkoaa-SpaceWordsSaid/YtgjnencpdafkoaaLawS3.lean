/- The law SpaceWords of layer 15 returns true for every argument. No conditions. -/
import Derived.Test.YtgjnencpdafkoaaSpI
import Derived.Test.YtgjnencpdafkoaaOpenW
namespace Go.Proofs.Ytgjnencpdafkoaa
set_option linter.unusedVariables false
set_option linter.unusedSimpArgs false
open Go.RowKit
theorem objF_len (ws : List (BitVec 64)) (top : Nat) : ∀ n a l, objF ws top n a = some l → l.length ≤ n
  | 0, a, l, h => by
    have e : some [] = some l := h
    injection e with e
    rw [← e]
    exact Nat.le_refl _
  | n + 1, a, l, h => by
    have e : objF ws top (n + 1) a = if a < top then (if goodX (ws.getD a 0#64) (top - a) = true then (objF ws top n (a + szX (ws.getD a 0#64))).map (a :: ·) else none) else some [] := rfl
    rw [e] at h
    split at h
    · split at h
      · cases h2 : objF ws top n (a + szX (ws.getD a 0#64)) with
        | none => rw [h2] at h; cases h
        | some l2 =>
          rw [h2] at h
          injection h with h
          have := objF_len ws top n _ l2 h2
          rw [← h, List.length_cons]
          omega
      · cases h
    · injection h with h
      rw [← h]
      simp
set_option maxHeartbeats 1000000
set_option maxRecDepth 100000
theorem words_far (w : World) (A : Option Addr) (n0 c : Nat) (h : 400 < n0) (b t e : Int) : Calls Try.prog 4 #[.slice A n0 c, .int .i64 b, .int .i64 t, .int .i64 e] w (TruP (.bool true) w) := by
  have t1 : decide ((400 : Int) < (n0 : Int)) = true := by simp; omega
  clear h
  go_enter Try.func4, Try.ntmps4
  go_wp2_with fail
  refine Calls.mono (known15_c _) ?_
  rintro r w1 ⟨rfl, b1⟩
  go_wp2_with fail
  go_ret
  exact ⟨rfl, b1⟩
theorem words_out (w : World) (A : Option Addr) (ws : List (BitVec 64)) (c : Nat) (hr : Rd u64v w w.heap.size A ws) (hl : ws.length ≤ 400) (b t e : Int) (ho : b < 0 ∨ (¬ b < 0 ∧ t < b) ∨ (¬ b < 0 ∧ ¬ t < b ∧ e < t) ∨ (¬ b < 0 ∧ ¬ t < b ∧ ¬ e < t ∧ (ws.length : Int) < e)) : Calls Try.prog 4 #[.slice A ws.length c, .int .i64 b, .int .i64 t, .int .i64 e] w (TruP (.bool true) w) := by
  have HMem := Lib.hid (fun W hr => mem15_c W A c ws hr (by omega))
  have HOf := Lib.hid (fun W B g v (h : MemAt W B g v ws) => sof_out W (.pointer (some ⟨g, 0, none⟩)) b t e (bare_out W B g v ws b t e h ho))
  have HR := Lib.hid hr
  obtain ⟨N, hN⟩ : ∃ N, N = ws.length := ⟨_, rfl⟩
  rw [← hN] at HMem ho ⊢
  have u0 : ¬ 400 < N := by omega
  clear hr hl hN
  rcases ho with h1 | ⟨h1, h2⟩ | ⟨h1, h2, h3⟩ | ⟨h1, h2, h3, h4⟩
  all_goals
    go_enter Try.func4, Try.ntmps4
    go_wp2_with fail
    refine Calls.mono (known15_c _) ?_
    rintro r w1 ⟨rfl, b1⟩
    have HB1 := Lib.hid b1
    clear b1
    go_wp2_with fail
    refine Calls.mono (HMem.out w1 ((HR.out.below HB1.out).more HB1.out.size)) ?_
    rintro r w2 ⟨g, v, rfl, h2', b2⟩
    have HM2 := Lib.hid h2'
    have HB2 := Lib.hid (HB1.out.trans (b2.mono HB1.out.size))
    clear h2' b2
    go_wp2_with fail
    refine Calls.mono (HOf.out w2 _ g v HM2.out) ?_
    rintro r w3 ⟨rfl, rfl⟩
    go_wp2_with fail
    go_ret
    exact ⟨rfl, HB2.out⟩
theorem words_in (w : World) (A : Option Addr) (ws : List (BitVec 64)) (c : Nat) (hr : Rd u64v w w.heap.size A ws) (hl : ws.length ≤ 400) (b t e : Nat) (hbt : b ≤ t) (hte : t ≤ e) (hel : e ≤ ws.length) : Calls Try.prog 4 #[.slice A ws.length c, .int .i64 b, .int .i64 t, .int .i64 e] w (TruP (.bool true) w) := by
  have HMem := Lib.hid (fun W hr => mem15_c W A c ws hr (by omega))
  have HR := Lib.hid hr
  have HRo := Lib.hid (fun W R (h : RefAt W R A c ws b t e) => robjects_c W R A c ws b t e h hbt (by omega) (by omega))
  obtain ⟨r0, hr0⟩ : ∃ r0, objF ws t (t + 1) b = r0 := ⟨_, rfl⟩
  rw [hr0] at HRo
  have hRef : ∀ W, Below w.heap.size w W → RefAt (W.alloc (.cells #[.slice A ws.length c, .int .i64 b, .int .i64 t, .int .i64 e] 33)) W.heap.size A c ws b t e := fun W hb => ⟨Bk.new W _ _, ((hr.below hb).more hb.size).below (Gw.alloc W _) |>.more (Gw.alloc W _).size⟩
  have HRef := Lib.hid hRef
  have HL := Lib.hid hl
  cases r0 with
  | none =>
    have HOf := Lib.hid (fun W B g v (h : MemAt W B g v ws) => sof_none W B g v ws b t e h hbt hte hel (by omega) hr0)
    obtain ⟨N, hN⟩ : ∃ N, N = ws.length := ⟨_, rfl⟩
    rw [← hN] at HMem HRef ⊢
    have u0 : ¬ 400 < N := by omega
    have u1 : ¬ (b : Int) < 0 := by omega
    have u2 : ¬ t < b := by omega
    have u3 : ¬ e < t := by omega
    have u4 : ¬ N < e := by omega
    clear hr hl hN hr0 hRef hbt hte hel
    go_enter Try.func4, Try.ntmps4
    go_wp2_with fail
    refine Calls.mono (known15_c _) ?_
    rintro r w1 ⟨rfl, b1⟩
    have HB1 := Lib.hid b1
    clear b1
    go_wp2_with fail
    refine Calls.mono (HMem.out w1 ((HR.out.below HB1.out).more HB1.out.size)) ?_
    rintro r w2 ⟨g, v, rfl, h2', b2⟩
    have HM2 := Lib.hid h2'
    have HB2 := Lib.hid (HB1.out.trans (b2.mono HB1.out.size))
    clear h2' b2
    go_wp2_with fail
    refine Calls.mono (HOf.out w2 _ g v HM2.out) ?_
    rintro r w3 ⟨rfl, b3⟩
    have HB3 := Lib.hid (HB2.out.trans (b3.mono HB2.out.size))
    have HRf := Lib.hid (HRef.out w3 HB3.out)
    have HBa := Lib.hid (HB3.out.alloc HB3.out.size (.cells #[.slice A N c, .int .i64 b, .int .i64 t, .int .i64 e] 33))
    clear b3
    go_wp2_with fail
    refine Calls.mono (HRo.out _ _ HRf.out) ?_
    rintro r w4 ⟨rfl, b4⟩
    have HB4 := Lib.hid (HBa.out.trans (b4.mono HBa.out.size))
    clear b4
    go_wp2_with fail
    go_ret
    exact ⟨rfl, HB4.out⟩
  | some l =>
    have HOf := Lib.hid (fun W B g v (h : MemAt W B g v ws) => sof_some W B g v ws b t e h hbt hte hel (by omega) l hr0)
    have HObj := Lib.hid (fun W B s g v (h : SpAt W B s g v ws b t e) => objects_c W B s g v ws b t e h (by omega))
    rw [hr0] at HObj
    obtain ⟨N, hN⟩ : ∃ N, N = ws.length := ⟨_, rfl⟩
    rw [← hN] at HMem HRef ⊢
    have u0 : ¬ 400 < N := by omega
    have u1 : ¬ (b : Int) < 0 := by omega
    have u2 : ¬ t < b := by omega
    have u3 : ¬ e < t := by omega
    have u4 : ¬ N < e := by omega
    have HLen : Hid (l.length ≤ 1000000) := Lib.hid (by have := objF_len ws t (t + 1) b l hr0; omega)
    clear hr hl hN hr0 hRef hbt hte hel
    go_enter Try.func4, Try.ntmps4
    go_wp2_with fail
    refine Calls.mono (known15_c _) ?_
    rintro r w1 ⟨rfl, b1⟩
    have HB1 := Lib.hid b1
    clear b1
    go_wp2_with fail
    refine Calls.mono (HMem.out w1 ((HR.out.below HB1.out).more HB1.out.size)) ?_
    rintro r w2 ⟨g, v, rfl, h2', b2⟩
    have HM2 := Lib.hid h2'
    have HB2 := Lib.hid (HB1.out.trans (b2.mono HB1.out.size))
    clear h2' b2
    go_wp2_with fail
    refine Calls.mono (HOf.out w2 _ g v HM2.out) ?_
    rintro r w3 ⟨s, rfl, hs3, b3⟩
    have HB3 := Lib.hid (HB2.out.trans (b3.mono HB2.out.size))
    have HRf := Lib.hid (HRef.out w3 HB3.out)
    have HSa := Lib.hid (hs3.below (Gw.alloc w3 (.cells #[.slice A N c, .int .i64 b, .int .i64 t, .int .i64 e] 33)))
    have HBa := Lib.hid (HB3.out.alloc HB3.out.size (.cells #[.slice A N c, .int .i64 b, .int .i64 t, .int .i64 e] 33))
    clear b3 hs3
    go_wp2_with fail
    refine Calls.mono (HRo.out _ _ HRf.out) ?_
    rintro r w4 ⟨A4, c4, rfl, _, ho4, b4⟩
    have H4 := Lib.hid (And.intro (HSa.out.below b4) (And.intro (HRf.out.below b4) (And.intro ho4.rd (HBa.out.trans (b4.mono HBa.out.size)))))
    clear b4 ho4
    go_wp2_with fail
    refine Calls.mono (HObj.out w4 _ s g v H4.out.1) ?_
    rintro r w5 ⟨A5, c5, rfl, _, ho5, b5⟩
    have H5 := Lib.hid (And.intro (H4.out.1.below b5) (And.intro (H4.out.2.1.below b5) (And.intro ((H4.out.2.2.1.below b5).more b5.size) (And.intro ho5.rd (H4.out.2.2.2.trans (b5.mono H4.out.2.2.2.size))))))
    clear b5 ho5 H4
    go_wp2_with fail
    refine Calls.mono (ints_t w5 A5 A4 c5 c4 l H5.out.2.2.2.1 H5.out.2.2.1 HLen.out) ?_
    rintro r w6 ⟨rfl, b6⟩
    have H6 := Lib.hid (And.intro (H5.out.1.below b6) (And.intro (H5.out.2.1.below b6) (H5.out.2.2.2.2.trans (b6.mono H5.out.2.2.2.2.size))))
    clear b6 H5
    go_wp2_with fail
    refine Calls.mono (same15_t w6 _ s g _ c b t e v ws A H6.out.1 H6.out.2.1 (by have := HL.out; omega)) ?_
    rintro r w7 ⟨rfl, b7⟩
    have H7 := Lib.hid (H6.out.2.2.trans (b7.mono H6.out.2.2.size))
    clear b7 H6
    go_wp2_with fail
    go_ret
    exact ⟨rfl, H7.out⟩
theorem spw_walk (w : World) (A : Option Addr) (ws : List (BitVec 64)) (c : Nat) (_g : ws.length ≤ c) (_m : c ≤ maxLen) (hr : Rd u64v w w.heap.size A ws) (b : Int) (w1 : (Lit.int .i64 b).wf = true) (t : Int) (w2 : (Lit.int .i64 t).wf = true) (e : Int) (w3 : (Lit.int .i64 e).wf = true) : Calls Try.prog 4 #[.slice A ws.length c, .int .i64 b, .int .i64 t, .int .i64 e] w (TruP (.bool true) w) := by
  by_cases hl : 400 < ws.length
  · exact words_far w A ws.length c hl b t e
  · by_cases ho : b < 0 ∨ (¬ b < 0 ∧ t < b) ∨ (¬ b < 0 ∧ ¬ t < b ∧ e < t) ∨ (¬ b < 0 ∧ ¬ t < b ∧ ¬ e < t ∧ (ws.length : Int) < e)
    · exact words_out w A ws c hr (by omega) b t e ho
    · obtain ⟨b', rfl⟩ : ∃ k : Nat, b = (k : Int) := ⟨b.toNat, by omega⟩
      obtain ⟨t', rfl⟩ : ∃ k : Nat, t = (k : Int) := ⟨t.toNat, by omega⟩
      obtain ⟨e', rfl⟩ : ∃ k : Nat, e = (k : Int) := ⟨e.toNat, by omega⟩
      exact words_in w A ws c hr (by omega) b' t' e' (by omega) (by omega) (by omega)
end Go.Proofs.Ytgjnencpdafkoaa
namespace Go.Proofs.Ytgjnencpdafkoaa.spaceWords
open Go.ChangeShapes Go.WideShapes Go.ChangeAt Go.RowKit
open Go.ChangeMaps (open_string shut_string)
set_option linter.unusedVariables false
set_option maxRecDepth 100000 in
theorem lifted (os : Os) (started : os.Started) (H : Type) (enc : TypeId × Value → H) :
    ReturnsInHanded {} Try.checked os 4 .any (Rows.spaceWordsSpec.pre6 enc Try.prog Try.f4 Rows.spaceWordsRow.domain false) (Rows.spaceWordsSpec.post enc Try.prog Try.f4 false true false false) := by
  refine returnsInHanded_of_change (C := Try.checked) own started (by kernel_rfl) Try.func4
    (ChangeSpec.witness6 (enc := enc) (C := Try.checked) false ⟨#[], #[.slice none 0 0, .int .i64 0, .int .i64 0, .int .i64 0], []⟩ 8 (by kernel_rfl) (by kernel_rfl) (by kernel_rfl) (by kernel_rfl)) ?_
  intro W base args ds gs before hval0 hW hcnd _
  have hval : ∀ (j : Nat) t v, Try.f4.params[j]? = some t → args[j]? = some v → Value.okWide Try.prog W .any base t v := hval0
  have hW' := hW
  obtain ⟨p, q, hA0, hV, rfl, hfz, hnd⟩ := hW
  have hA : DataW.TrodAll enc Try.prog W 0 (fun _ => true) true Try.f4.params.toList args.toList ds p := hA0
  rw [Try.params4] at hA hval
  obtain ⟨v0, vs0, d0, ds0, p0, q0, hargs, rfl, rfl, h0, r0⟩ := trodAll_cons hA
  obtain ⟨v1, vs1, d1, ds1, p1, q1, rfl, rfl, rfl, h1, r1⟩ := trodAll_cons r0
  obtain ⟨v2, vs2, d2, ds2, p2, q2, rfl, rfl, rfl, h2, r2⟩ := trodAll_cons r1
  obtain ⟨v3, vs3, d3, ds3, p3, q3, rfl, rfl, rfl, h3, r3⟩ := trodAll_cons r2
  obtain ⟨rfl, rfl, rfl⟩ := trodAll_nil r3
  obtain rfl : args = #[v0, v1, v2, v3] := by cases args; simp_all
  obtain ⟨rfl, rfl⟩ := trodVars_none hV
  have k0 := h0
  have lt0 : ∀ x ∈ p0, x.block < W.heap.size := by obtain ⟨m, hm⟩ := k0; exact DataW.trod_lt m _ _ _ hm
  obtain ⟨A0, a0, c0, e0v, g0, m0, w0⟩ := open_words Try.underlying22 Try.underlying54 (by kernel_rfl) (hval 0 22 v0 rfl rfl) h0; subst e0v
  have k1 := h1
  have lt1 : ∀ x ∈ p1, x.block < W.heap.size := by obtain ⟨m, hm⟩ := k1; exact DataW.trod_lt m _ _ _ hm
  obtain ⟨a1, e1v, _, _, w1⟩ := open_int Try.underlying3 (hval 1 3 v1 rfl rfl) h1; subst e1v
  have k2 := h2
  have lt2 : ∀ x ∈ p2, x.block < W.heap.size := by obtain ⟨m, hm⟩ := k2; exact DataW.trod_lt m _ _ _ hm
  obtain ⟨a2, e2v, _, _, w2⟩ := open_int Try.underlying3 (hval 2 3 v2 rfl rfl) h2; subst e2v
  have k3 := h3
  have lt3 : ∀ x ∈ p3, x.block < W.heap.size := by obtain ⟨m, hm⟩ := k3; exact DataW.trod_lt m _ _ _ hm
  obtain ⟨a3, e3v, _, _, w3⟩ := open_int Try.underlying3 (hval 3 3 v3 rfl rfl) h3; subst e3v
  clear hA0 hval0
  refine (spw_walk W A0 a0 c0 g0 m0 w0 a1 w1 a2 w2 a3 w3).mono fun e W' ⟨he, bel⟩ => ?_
  subst he
  exact ⟨_, rfl, _, _, _, [], _, [], hW', trodAll_mk1 (shut_bool Try.underlying4 _), (trodAll_cons_mk (Below.trod laidOut (by kernel_rfl) (of_decide_eq_true (by kernel_rfl)) k0 bel lt0) (trodAll_cons_mk (Below.trod laidOut (by kernel_rfl) (of_decide_eq_true (by kernel_rfl)) k1 bel lt1) (trodAll_cons_mk (Below.trod laidOut (by kernel_rfl) (of_decide_eq_true (by kernel_rfl)) k2 bel lt2) (trodAll_cons_mk (Below.trod laidOut (by kernel_rfl) (of_decide_eq_true (by kernel_rfl)) k3 bel lt3) trodAll_mk0)))), rfl, bel.frame _, fun h => by cases h⟩
theorem over : Rows.spaceWordsRow.holds Try.pinned (OpenSpec.ofChange Rows.spaceWordsSpec) :=
  OpenClaim.holds_of_wide 4 Try.f4 rfl rfl rfl rfl rfl rfl rfl ⟨rfl, rfl, rfl, rfl, rfl⟩ rfl rfl rfl rfl rfl (by kernel_rfl) Try.func4 (by kernel_rfl)
    (of_decide_eq_true (by kernel_rfl)) (by unfold Func.isWrapper; first | (rw [if_pos (by decide +kernel)]; kernel_rfl) | (rw [if_neg (by decide +kernel)]; exact ⟨rfl, rfl⟩))
    (fun os started H enc _ => lifted os started H enc)
theorem proved : Rows.SpaceWordsSaid := over
end Go.Proofs.Ytgjnencpdafkoaa.spaceWords
