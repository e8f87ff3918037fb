/- The law RecordCuts of layer 8 returns true for every argument. No conditions. -/
import Derived.Test.YtoigahkgdanjnaaRecG
import Derived.Test.YtoigahkgdanjnaaOpenX
namespace Go.Proofs.Ytoigahkgdanjnaa
set_option linter.unusedVariables false
set_option linter.unusedSimpArgs false
open Go.RowKit
set_option maxHeartbeats 400000
set_option maxRecDepth 100000
theorem ow_empty2 {α : Type} (f : α → Value) (E : TypeId) (w : World) (base g : Nat) (hg : g = w.heap.size) (hb : base ≤ w.heap.size) : Ow f E (w.alloc (.cells #[] E)) base (.slice (some ⟨g, 0, none⟩) 0 0) [] := by
  subst hg
  exact ow_empty f E w base hb
theorem cuts_far (w : World) (k : Int) (tx : BitVec 64) (sp no : Int) (A : Option Addr) (n c : Nat) (cut : Int) (A2 : Option Addr) (n2 c2 : Nat) (h : 500 < n ∨ (¬ 500 < n ∧ 100 < n2) ∨ (¬ 500 < n ∧ ¬ 100 < n2 ∧ cut < 0)) : Calls Try.prog 5 #[recV k tx sp no A n c, .int .i64 cut, .slice A2 n2 c2] w (TruP (.bool true) w) := by
  have hk := Bk.new w 27 #[.int .i64 k, .int .u64 (U64 tx), .int .i64 sp, .int .i64 no, .slice A n c]
  have HK := Lib.hid hk
  have hb := Lib.hid (Gw.alloc w (.cells #[.int .i64 k, .int .u64 (U64 tx), .int .i64 sp, .int .i64 no, .slice A n c] 27))
  clear hk
  unfold recV
  have h' : 500 < (n : Int) ∨ (¬ 500 < (n : Int) ∧ 100 < (n2 : Int)) ∨ (¬ 500 < (n : Int) ∧ ¬ 100 < (n2 : Int) ∧ cut < 0) := by omega
  clear h
  rcases h' with h | ⟨h, h2⟩ | ⟨h, h2, h3⟩
  all_goals
    go_enter Try.func5, Try.ntmps5
    go_wp2_with fail
    refine Calls.mono (known8_c _) ?_
    rintro e w1 ⟨rfl, b1⟩
    have HB1 := Lib.hid (hb.out.trans (b1.mono hb.out.size))
    obtain ⟨c0, c1, c2', c3, c4⟩ := (HK.out.below b1 HK.out.lt).five
    clear b1
    go_wp2_with fail
    go_ret
    exact ⟨rfl, HB1.out⟩
theorem cuts_bad (w : World) (k : Int) (tx : BitVec 64) (sp no : Int) (A : Option Addr) (n c : Nat) (cut : Int) (A2 : Option Addr) (n2 c2 : Nat) (h1 : ¬ 500 < n) (h2 : ¬ 100 < n2) (h3 : ¬ cut < 0) (hb : badR k sp no) : Calls Try.prog 5 #[recV k tx sp no A n c, .int .i64 cut, .slice A2 n2 c2] w (TruP (.bool true) w) := by
  have hk := Bk.new w 27 #[.int .i64 k, .int .u64 (U64 tx), .int .i64 sp, .int .i64 no, .slice A n c]
  have HK := Lib.hid hk
  have HB := Lib.hid (Gw.alloc w (.cells #[.int .i64 k, .int .u64 (U64 tx), .int .i64 sp, .int .i64 no, .slice A n c] 27))
  have HE := Lib.hid (fun W => encode_no k tx sp no A n c W 1 (by decide) (fun W => check_bad k tx sp no A n c W hb))
  clear hk hb
  unfold recV at HE ⊢
  have q1 : ¬ 500 < (n : Int) := by omega
  have q2 : ¬ 100 < (n2 : Int) := by omega
  go_enter Try.func5, Try.ntmps5
  go_wp2_with fail
  refine Calls.mono (known8_c _) ?_
  rintro e w1 ⟨rfl, b1⟩
  have HB1 := Lib.hid (HB.out.trans (b1.mono HB.out.size))
  obtain ⟨c0, c1, c2', c3, c4⟩ := (HK.out.below b1 HK.out.lt).five
  clear b1
  go_wp2_with fail
  refine Calls.mono (HE.out _) ?_
  rintro e w2 ⟨rfl, b2⟩
  have HB2 := Lib.hid (HB1.out.trans (b2.mono HB1.out.size))
  clear b2
  go_wp2_with fail
  go_ret
  exact ⟨rfl, HB2.out⟩
theorem cuts_ok (w : World) (k : Nat) (tx : BitVec 64) (sp no : Nat) (A : Option Addr) (d : List (BitVec 8)) (c : Nat) (cut : Nat) (A2 : Option Addr) (bs : List (BitVec 8)) (c2 : Nat) (hcut : (cut : Int) ≤ 9223372036854775807) (h1 : ¬ 500 < d.length) (h2 : ¬ 100 < bs.length) (hb : ¬ badR k sp no) (hr : Rd b8 w w.heap.size A d) (hr2 : Rd b8 w w.heap.size A2 bs) : Calls Try.prog 5 #[recV k tx sp no A d.length c, .int .i64 cut, .slice A2 bs.length c2] w (TruP (.bool true) w) := by
  obtain ⟨n, hn⟩ : ∃ n, n = d.length := ⟨_, rfl⟩
  obtain ⟨n2, hn2⟩ : ∃ n2, n2 = bs.length := ⟨_, rfl⟩
  have HK := Lib.hid (Bk.new w 27 #[.int .i64 k, .int .u64 (U64 tx), .int .i64 sp, .int .i64 no, .slice A n c])
  have HB := Lib.hid (Gw.alloc w (.cells #[.int .i64 k, .int .u64 (U64 tx), .int .i64 sp, .int .i64 no, .slice A n c] 27))
  have HE := Lib.hid (fun W (q : Rd b8 W W.heap.size A d) => encode_ok k tx sp no A d c W hb (by omega) q)
  have HSm := Lib.hid (fun W A5 c5 (q1 : Rd b8 W W.heap.size A5 d) (q2 : Rd b8 W W.heap.size A d) => same_c k tx sp no A5 A d c5 c W q1 q2)
  have HEL := Lib.hid (encRL_len k tx sp no d)
  have HEP : Hid (0 < (encRL k tx sp no d).length) := Lib.hid (by
    have := sealC_len (bodyL k tx sp no d)
    unfold encRL rawL
    rw [List.length_append]
    omega)
  have HDC := Lib.hid (fun W (A' : Option Addr) (c' m : Nat) (q1 : m < (encRL k tx sp no d).length) (q2 : m ≤ c') (q3 : Rd b8 W W.heap.size A' ((encRL k tx sp no d).take m)) => decode_cut k tx sp no A' d c' m W (by omega) q1 q2 q3)
  have HDO := Lib.hid (fun W (A' : Option Addr) (c' : Nat) (q1 : (encRL k tx sp no d ++ bs).length ≤ c') (q2 : Rd b8 W W.heap.size A' (encRL k tx sp no d ++ bs)) => decode_ok k tx sp no A' d bs c' W hb (by omega) (by omega) q1 q2)
  rw [← hn] at HE HSm ⊢
  rw [← hn2]
  have HN := Lib.hid hn
  have HN2 := Lib.hid hn2
  have HR := Lib.hid hr
  have HR2 := Lib.hid hr2
  have q1 : ¬ 500 < (n : Int) := by omega
  have q2 : ¬ 100 < (n2 : Int) := by omega
  have q3 : ¬ (cut : Int) < 0 := by omega
  have q4 : n ≤ 500 := by omega
  have q5 : n2 ≤ 100 := by omega
  unfold recV at HE HSm HDC ⊢
  clear hb hn hn2 hr hr2 h1 h2
  go_enter Try.func5, Try.ntmps5
  go_wp2_with fail
  refine Calls.mono (known8_c _) ?_
  rintro e w1 ⟨rfl, b1⟩
  have HB1 := Lib.hid (HB.out.trans (b1.mono HB.out.size))
  have HK1 := Lib.hid (HK.out.below b1 HK.out.lt)
  obtain ⟨c0, c1, c2', c3, c4⟩ := HK1.out.five
  clear b1 HB HK
  go_wp2_with fail
  refine Calls.mono (HE.out _ ((HR.out.below HB1.out).more HB1.out.size)) ?_
  rintro e w2 ⟨A3, k3, rfl, hk3, hr3, b2, ha3⟩
  have HB2 := Lib.hid (HB1.out.trans (b2.mono HB1.out.size))
  have HK2 := Lib.hid (HK1.out.below b2 HK1.out.lt)
  have HR3 := Lib.hid hr3
  obtain ⟨EL, hEL⟩ : ∃ EL, EL = (encRL k tx sp no d).length := ⟨_, rfl⟩
  have HELL := Lib.hid hEL
  rw [← hEL] at hk3 ⊢
  have e0 : 0 < EL := by have := HEP.out; omega
  have e9 : EL ≤ 564 := by have := HEL.out; have := HN.out; omega
  obtain ⟨m, hm⟩ : ∃ m, m = cut % EL := ⟨_, rfl⟩
  have hml : m < EL := by rw [hm]; exact Nat.mod_lt _ e0
  have em : (cut : Int) % (EL : Int) = (m : Int) := by rw [hm]; rfl
  have e1 : ¬ (EL : Int) = 0 := by omega
  have e2 : ((EL : Int) == 0) = false := by simp; omega
  have e3 : (0 : Int) < (EL : Int) := by omega
  have e4 : (m : Int) ≤ (k3 : Int) := by omega
  have e5 : (0 : Int) ≤ (m : Int) := by omega
  have hmk : m ≤ k3 := by omega
  clear hm hEL b2 hr3 ha3 HB1 HK1 HE c0 c1 c2' c3 c4 HEP HEL
  go_wp2_with fail
  have hz : U64 0#64 = 0 := by decide +kernel
  rw [hz] at HDC
  clear hz
  refine Calls.mono (HDC.out _ _ _ m (by have := HELL.out; omega) hmk (HR3.out.take m)) ?_
  rintro e w3 ⟨rfl, b3⟩
  obtain ⟨W3, hW3⟩ : ∃ W, W = w3.alloc (.cells #[.int .i64 0, .int .u64 0, .int .i64 0, .int .i64 0, .slice none 0 0] 27) := ⟨_, rfl⟩
  have b23 : Below w2.heap.size w2 W3 := by rw [hW3]; exact b3.trans ((Gw.alloc w3 _).mono b3.size)
  have HB3 := Lib.hid (HB2.out.trans (b23.mono HB2.out.size))
  have HK3 := Lib.hid (HK2.out.below b23 HK2.out.lt)
  have HR3' := Lib.hid ((HR3.out.below b23).more b23.size)
  have HL1 := Lib.hid (show ([] : List (BitVec 8)).length + (encRL k tx sp no d).length ≤ 4294967296 from by rw [← HELL.out]; simp; omega)
  have HL2 := Lib.hid (show (encRL k tx sp no d).length + bs.length ≤ 4294967296 from by rw [← HELL.out, ← HN2.out]; omega)
  have HR2' := Lib.hid ((HR2.out.below HB3.out).more HB3.out.size)
  clear b3 b23 HR3 HB2 HK2 HDC hmk
  subst hW3
  obtain ⟨c0, c1, c2', c3, c4⟩ := HK3.out.five
  go_wp2_with (first | (at_builtin; refine wp_app one8 b8_one rfl (.tmp 49) (.tmp 50) rfl (w3.heap.size + 1) _ [] rfl (ow_empty2 b8 5 _ (w3.heap.size + 1) (w3.heap.size + 1) (by simp) (by simp)) A3 EL k3 (encRL k tx sp no d) rfl HELL.out _ (HR3'.out.alloc (Nat.le_refl _) _) HL1.out (by decide) (by simp) ?_; intro v5 w5 ho5 hb5 _ _; rw [List.nil_append] at ho5; have hs5 := grow1 hb5) | (at_builtin; refine wp_app one8 b8_one rfl (.tmp 51) (.tmp 52) rfl (w3.heap.size + 1) v5 (encRL k tx sp no d) rfl ho5 A2 n2 c2 bs rfl HN2.out w.heap.size (HR2.out.below ((HB3.out.trans ((Gw.alloc _ _).mono HB3.out.size)).trans (hb5.mono (by have := HB3.out.size; simp at this; omega)))) HL2.out (by decide) (by simp at hs5; omega) ?_; intro v6 w6 ho6 hb6 _ _; obtain ⟨A6, k6, rfl, hk6⟩ := ho6.form; obtain ⟨n6, hn6⟩ : ∃ n6, n6 = (encRL k tx sp no d ++ bs).length := ⟨_, rfl⟩; have HN6 := Lib.hid hn6; have HO6 := Lib.hid ho6; have HK6 := Lib.hid hk6; rw [← hn6] at HO6 HK6 ⊢; clear hn6 ho6 hk6))
  have hwz : w.heap.size ≤ w3.heap.size + 1 := by simpa using HB3.out.size
  have hb36 := (((Gw.alloc (w3.alloc (.cells #[.int .i64 0, .int .u64 0, .int .i64 0, .int .i64 0, .slice none 0 0] 27)) (.cells #[] 5)).mono (B' := w3.heap.size + 1) (by simp)).trans hb5).trans hb6
  have HB6 := Lib.hid (HB3.out.trans (hb36.mono hwz))
  have HK6' := Lib.hid (HK3.out.below hb36 (by have := HK3.out.lt; simpa using this))
  have HR6 := Lib.hid ((HR.out.below HB6.out).more HB6.out.size)
  have HD := Lib.hid (HDO.out w6 A6 k6 (by rw [← HN6.out]; exact HK6.out) (by
    have h2 := HO6.out
    rw [HN6.out] at h2
    exact h2.rd))
  rw [← HN6.out] at HD
  clear hb36 hb5 hb6 hs5 HK3 HR3' HB3 hwz ho5 HDO HK6 HO6 HN6 c0 c1 c2' c3 c4
  refine Calls.mono HD.out ?_
  rintro e w7 ⟨A7, k7, rfl, hr7, b7, ha7⟩
  rw [← HELL.out, ← HN.out]
  unfold recV
  obtain ⟨W8, hW8⟩ : ∃ W, W = w7.alloc (.cells #[.int .i64 (k : Int), .int .u64 (U64 tx), .int .i64 (sp : Int), .int .i64 (no : Int), .slice A7 n k7] 27) := ⟨_, rfl⟩
  have HB8 : Hid (Below w.heap.size w W8) := Lib.hid (by rw [hW8]; exact (HB6.out.trans (b7.mono HB6.out.size)).trans ((Gw.alloc w7 _).mono (HB6.out.trans (b7.mono HB6.out.size)).size))
  have HK8 : Hid (Bk W8 w.heap.size 27 #[.int .i64 (k : Int), .int .u64 (U64 tx), .int .i64 (sp : Int), .int .i64 (no : Int), .slice A n c]) := Lib.hid (by rw [hW8]; exact (HK6'.out.below b7 HK6'.out.lt).alloc _)
  have HJ8 : Hid (Bk W8 w7.heap.size 27 #[.int .i64 (k : Int), .int .u64 (U64 tx), .int .i64 (sp : Int), .int .i64 (no : Int), .slice A7 n k7]) := Lib.hid (by rw [hW8]; exact Bk.new w7 _ _)
  have HR8 : Hid (Rd b8 W8 W8.heap.size A7 d) := Lib.hid (by rw [hW8]; exact (hr7.alloc (Nat.le_refl _) _).more (by simp))
  have HS8 := Lib.hid (HSm.out W8 A7 k7 HR8.out ((HR.out.below HB8.out).more HB8.out.size))
  obtain ⟨c0, c1, c2', c3, c4⟩ := HK8.out.five
  obtain ⟨d0, d1, d2, d3, d4⟩ := HJ8.out.five
  clear hr7 b7 ha7 HR8 HK8 HJ8 HB6 HK6' HR6 HSm HD
  subst hW8
  go_wp2_with fail
  refine Calls.mono HS8.out ?_
  rintro e w9 ⟨rfl, b9⟩
  have HB9 := Lib.hid (HB8.out.trans (b9.mono HB8.out.size))
  clear c0 c1 c2' c3 c4 d0 d1 d2 d3 d4 b9 HS8
  go_wp2_with fail
  go_ret
  exact ⟨rfl, HB9.out⟩
theorem cuts_walk (w : World) (x : Rc) (hx : RcOk w w.heap.size x) (cut : Int) (wc : (Lit.int .i64 cut).wf = true) (A2 : Option Addr) (bs : List (BitVec 8)) (c2 : Nat) (_g : bs.length ≤ c2) (_m : c2 ≤ maxLen) (hr2 : Rd b8 w w.heap.size A2 bs) : Calls Try.prog 5 #[x.v, .int .i64 cut, .slice A2 bs.length c2] w (TruP (.bool true) w) := by
  obtain ⟨k, tx, sp, no, A, d, c⟩ := x
  have hr := hx.rd
  have hc := wf64 wc
  change Calls Try.prog 5 #[recV k tx sp no A d.length c, .int .i64 cut, .slice A2 bs.length c2] w (TruP (.bool true) w)
  change Rd b8 w w.heap.size A d at hr
  clear hx
  by_cases h : 500 < d.length ∨ (¬ 500 < d.length ∧ 100 < bs.length) ∨ (¬ 500 < d.length ∧ ¬ 100 < bs.length ∧ cut < 0)
  · exact cuts_far w k tx sp no A d.length c cut A2 bs.length c2 h
  · have h1 : ¬ 500 < d.length := fun e => h (.inl e)
    have h2 : ¬ 100 < bs.length := fun e => h (.inr (.inl ⟨h1, e⟩))
    have h3 : ¬ cut < 0 := fun e => h (.inr (.inr ⟨h1, h2, e⟩))
    clear h
    by_cases hb : badR k sp no
    · exact cuts_bad w k tx sp no A d.length c cut A2 bs.length c2 h1 h2 h3 hb
    · obtain ⟨k', rfl⟩ : ∃ s : Nat, k = (s : Int) := ⟨k.toNat, by unfold badR at hb; omega⟩
      obtain ⟨sp', rfl⟩ : ∃ s : Nat, sp = (s : Int) := ⟨sp.toNat, by unfold badR at hb; omega⟩
      obtain ⟨no', rfl⟩ : ∃ s : Nat, no = (s : Int) := ⟨no.toNat, by unfold badR at hb; omega⟩
      obtain ⟨cut', rfl⟩ : ∃ s : Nat, cut = (s : Int) := ⟨cut.toNat, by omega⟩
      exact cuts_ok w k' tx sp' no' A d c cut' A2 bs c2 (by omega) h1 h2 hb hr hr2
end Go.Proofs.Ytoigahkgdanjnaa
namespace Go.Proofs.Ytoigahkgdanjnaa.recordCuts
open Go.ChangeShapes Go.WideShapes Go.ChangeAt Go.RowKit
open Go.ChangeMaps (open_string shut_string)
set_option linter.unusedVariables false
set_option maxRecDepth 100000 in
theorem lifted (os : Os) (started : os.Started) (H : Type) (enc : TypeId × Value → H) :
    ReturnsInHanded {} Try.checked os 5 .any (Rows.recordCutsSpec.pre6 enc Try.prog Try.f5 Rows.recordCutsRow.domain false) (Rows.recordCutsSpec.post enc Try.prog Try.f5 false true false false) := by
  refine returnsInHanded_of_change (C := Try.checked) own started (by kernel_rfl) Try.func5
    (ChangeSpec.witness6 (enc := enc) (C := Try.checked) false ⟨#[], #[.agg #[.int .i64 0, .int .u64 0, .int .i64 0, .int .i64 0, .slice none 0 0], .int .i64 0, .slice none 0 0], []⟩ 8 (by kernel_rfl) (by kernel_rfl) (by kernel_rfl) (by kernel_rfl)) ?_
  intro W base args ds gs before hval0 hW hcnd _
  have hval : ∀ (j : Nat) t v, Try.f5.params[j]? = some t → args[j]? = some v → Value.okWide Try.prog W .any base t v := hval0
  have hW' := hW
  obtain ⟨p, q, hA0, hV, rfl, hfz, hnd⟩ := hW
  have hA : DataW.TrodAll enc Try.prog W 0 (fun _ => true) true Try.f5.params.toList args.toList ds p := hA0
  rw [Try.params5] at hA hval
  obtain ⟨v0, vs0, d0, ds0, p0, q0, hargs, rfl, rfl, h0, r0⟩ := trodAll_cons hA
  obtain ⟨v1, vs1, d1, ds1, p1, q1, rfl, rfl, rfl, h1, r1⟩ := trodAll_cons r0
  obtain ⟨v2, vs2, d2, ds2, p2, q2, rfl, rfl, rfl, h2, r2⟩ := trodAll_cons r1
  obtain ⟨rfl, rfl, rfl⟩ := trodAll_nil r2
  obtain rfl : args = #[v0, v1, v2] := by cases args; simp_all
  obtain ⟨rfl, rfl⟩ := trodVars_none hV
  have k0 := h0
  have lt0 : ∀ x ∈ p0, x.block < W.heap.size := by obtain ⟨m, hm⟩ := k0; exact DataW.trod_lt m _ _ _ hm
  obtain ⟨a0, e0v, w0⟩ := open_str_Record (hval 0 27 v0 rfl rfl) h0; subst e0v
  have k1 := h1
  have lt1 : ∀ x ∈ p1, x.block < W.heap.size := by obtain ⟨m, hm⟩ := k1; exact DataW.trod_lt m _ _ _ hm
  obtain ⟨a1, e1v, _, _, w1⟩ := open_int Try.underlying3 (hval 1 3 v1 rfl rfl) h1; subst e1v
  have k2 := h2
  have lt2 : ∀ x ∈ p2, x.block < W.heap.size := by obtain ⟨m, hm⟩ := k2; exact DataW.trod_lt m _ _ _ hm
  obtain ⟨A2, a2, c2, e2v, g2, m2, w2⟩ := open_bytes Try.underlying25 Try.underlying5 (by kernel_rfl) (hval 2 25 v2 rfl rfl) h2; subst e2v
  clear hA0 hval0
  refine (cuts_walk W a0 w0 a1 w1 A2 a2 c2 g2 m2 w2).mono fun e W' ⟨he, bel⟩ => ?_
  subst he
  exact ⟨_, rfl, _, _, _, [], _, [], hW', trodAll_mk1 (shut_bool Try.underlying4 _), (trodAll_cons_mk (Below.trod laidOut (by kernel_rfl) (of_decide_eq_true (by kernel_rfl)) k0 bel lt0) (trodAll_cons_mk (Below.trod laidOut (by kernel_rfl) (of_decide_eq_true (by kernel_rfl)) k1 bel lt1) (trodAll_cons_mk (Below.trod laidOut (by kernel_rfl) (of_decide_eq_true (by kernel_rfl)) k2 bel lt2) trodAll_mk0))), rfl, bel.frame _, fun h => by cases h⟩
theorem over : Rows.recordCutsRow.holds Try.pinned (OpenSpec.ofChange Rows.recordCutsSpec) :=
  OpenClaim.holds_of_wide 5 Try.f5 rfl rfl rfl rfl rfl rfl rfl ⟨rfl, rfl, rfl, rfl, rfl⟩ rfl rfl rfl rfl rfl (by kernel_rfl) Try.func5 (by kernel_rfl)
    (of_decide_eq_true (by kernel_rfl)) (by unfold Func.isWrapper; first | (rw [if_pos (by decide +kernel)]; kernel_rfl) | (rw [if_neg (by decide +kernel)]; exact ⟨rfl, rfl⟩))
    (fun os started H enc _ => lifted os started H enc)
theorem proved : Rows.RecordCutsSaid := over
end Go.Proofs.Ytoigahkgdanjnaa.recordCuts
