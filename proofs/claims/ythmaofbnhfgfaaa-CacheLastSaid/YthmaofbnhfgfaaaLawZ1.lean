/- The law CacheLast of layer 11 returns true for every argument. No conditions. -/
import Derived.Test.YthmaofbnhfgfaaaCmP
import Derived.Test.YthmaofbnhfgfaaaOpenP
import Derived.Test.YthmaofbnhfgfaaaFrame
namespace Go.Proofs.Ythmaofbnhfgfaaa
set_option linter.unusedVariables false
set_option linter.unusedSimpArgs false
open Go.RowKit Go.Maps
set_option maxHeartbeats 4000000
set_option maxRecDepth 100000
theorem last_out (w : World) (A : Option Addr) (N c : Nat) (cl : Bool) (hN : N = 0 ∨ 30 < N) : Calls Try.prog 5 #[.slice A N c, .bool cl] w (TruP (.bool true) w) := by
  rcases hN with rfl | hN
  · go_enter Try.func5, Try.ntmps5
    go_wp2_with fail
    refine Calls.mono (known11_c w) ?_
    rintro e w1 ⟨rfl, d1⟩
    have HB1 := Lib.hid d1
    clear d1
    go_wp2_with fail
    go_ret
    exact ⟨rfl, HB1.out⟩
  · have t0 : decide ((30 : Int) < (N : Int)) = true := by simp; omega
    have t1 : ((N : Int) == 0) = false := by simp; omega
    have t2 : ¬ N = 0 := by omega
    clear hN
    go_enter Try.func5, Try.ntmps5
    go_wp2_with fail
    refine Calls.mono (known11_c w) ?_
    rintro e w1 ⟨rfl, d1⟩
    have HB1 := Lib.hid d1
    clear d1
    go_wp2_with fail
    go_ret
    exact ⟨rfl, HB1.out⟩
theorem last_walk (w : World) (A : Option Addr) (ps : List Pt) (c : Nat) (cl : Bool) (hr : Rd Pt.v w w.heap.size A ps) (hp : ∀ x ∈ ps, Rd b8 w w.heap.size x.1 x.2.1) : Calls Try.prog 5 #[.slice A ps.length c, .bool cl] w (TruP (.bool true) w) := by
  obtain ⟨N, hN⟩ : ∃ N, N = ps.length := ⟨_, rfl⟩
  rw [← hN]
  by_cases h0 : N = 0 ∨ 30 < N
  · exact last_out w A N c cl h0
  have t0 : decide ((30 : Int) < (N : Int)) = false := by simp; omega
  have t1 : ((N : Int) == 0) = false := by simp; omega
  have t2 : ¬ N = 0 := by omega
  obtain ⟨ad, hA, hab, hc0⟩ := hr 0 (by omega)
  clear hc0
  have HA := Lib.hid hA
  have HL := Lib.hid (show N = ps.length ∧ 0 < N ∧ N ≤ 30 by omega)
  have HR := Lib.hid (And.intro hr (And.intro hp hab))
  have hcell : ∀ V, Below w.heap.size w V → ∀ j, ∀ hj : j < ps.length, V.cell? (ad.add j) = some (.slice ps[j].1 ps[j].2.1.length ps[j].2.2) := fun V hV j hj => by
    obtain ⟨ad', e, _, hc⟩ := hr j hj
    rw [hA] at e
    injection e with e
    subst e
    exact (hV.cell (p := ad.add j) (by rw [add_block]; exact hab)).trans hc
  have HC := Lib.hid hcell
  have HNew := Lib.hid (fun w => show Calls Try.prog 7 #[.int .i64 3] w fun e w' => ∃ g fb mb, e = .returned (.tuple #[.pointer (some ⟨g, 0, none⟩), .int .i64 0]) ∧ CaAt w' g fb mb 3 [frZ, frZ, frZ] 0 [] none ∧ (∀ k, Cx g fb mb k → w.heap.size ≤ k) ∧ Below w.heap.size w w' from new_c w 3 (by decide) (by decide))
  clear hr hp hab hA h0 hN hcell
  go_enter Try.func5, Try.ntmps5
  go_wp2_with fail
  refine Calls.mono (known11_c w) ?_
  rintro e w1 ⟨rfl, d1⟩
  have HB1 := Lib.hid d1
  clear d1
  go_wp2_with fail
  refine Calls.mono (HNew.out _) ?_
  rintro e w2 ⟨g, fb, mb, rfl, h2, x2, b2⟩
  obtain ⟨W3, hW3⟩ : ∃ W, W = w2.alloc (.cells #[.int .i64 1, .int .i64 7] 29) := ⟨_, rfl⟩
  obtain ⟨kb, hkb⟩ : ∃ k, k = w2.heap.size := ⟨_, rfl⟩
  have hb3 : Below w2.heap.size w2 W3 := by rw [hW3]; exact Gw.alloc w2 _
  have hlt : ∀ k, Cx g fb mb k → k < w2.heap.size := fun k e => by
    have a1 := h2.blk.lt
    have a2 := h2.fr.lt
    have a3 := h2.map.lt
    rcases e with e | e | e <;> omega
  have hbw : Below w.heap.size w W3 := (HB1.out.trans (b2.mono HB1.out.size)).trans (hb3.mono (Nat.le_trans HB1.out.size b2.size))
  have HX := Lib.hid (show (∀ k, Cx g fb mb k → w.heap.size ≤ k ∧ k < W3.heap.size) ∧ ¬ Cx g fb mb kb ∧ Below w.heap.size w W3 from ⟨fun k e => ⟨Nat.le_trans HB1.out.size (x2 k e), Nat.lt_of_lt_of_le (hlt k e) hb3.size⟩, fun e => by have := hlt _ e; omega, hbw⟩)
  have H3 := Lib.hid (show LT g fb mb ps 0 W3 ∧ Bk W3 kb 29 #[.int .i64 1, .int .i64 7] from ⟨CaAt.below h2 hb3, by rw [hW3, hkb]; exact Bk.new w2 _ _⟩)
  have HW3 := Lib.hid (And.intro hW3 hkb)
  clear h2 x2 b2 hb3 hlt hbw hW3 hkb HNew
  go_wp2_with fail
  rw [← HW3.out.1, ← HW3.out.2]
  go_loopw [8] (fun i wr => ∃ k : Nat, k ≤ N ∧ i = .int .i64 k ∧ Hid (LT g fb mb ps k wr ∧ Kept (Cx g fb mb) W3 wr)) (fun i _ => N - (Go.RowKit.intOf i).toNat)
  case atStart => exact ⟨0, by omega, rfl, Lib.hid ⟨H3.out.1, Kept.refl _ _⟩⟩
  case round =>
    obtain ⟨k, hk, rfl, HK⟩ := hrel
    have hbw : Below w.heap.size w wr := HX.out.2.2.trans (HK.out.2.below HX.out.2.2.size (fun j e => (HX.out.1 j e).1))
    have hkb : Bk wr kb 29 #[.int .i64 1, .int .i64 7] := HK.out.2.bk H3.out.2 HX.out.2.1
    obtain ⟨y0, y1⟩ := hkb.two
    have HKB := Lib.hid (And.intro hbw hkb)
    clear hbw hkb
    by_cases hlt : k < N
    · have hkl : k < ps.length := by have := HL.out; omega
      have lt1 : (k : Int) < (N : Int) := by omega
      have lt2 : (0 : Int) ≤ (k : Int) := by omega
      have lt3 : (k : Int) ≤ 30 := by have := HL.out; omega
      obtain ⟨pa, bs, cp, hpe⟩ : ∃ a b c, ps[k] = (a, b, c) := ⟨_, _, _, rfl⟩
      obtain ⟨nj, hnj⟩ : ∃ n, n = bs.length := ⟨_, rfl⟩
      have ck := HC.out wr HKB.out.1 k hkl
      rw [hpe] at ck
      simp only at ck
      rw [← hnj] at ck
      have hrb : Rd b8 w w.heap.size pa bs := by have := HR.out.2.1 ps[k] (List.getElem_mem hkl); rw [hpe] at this; exact this
      have HKL := Lib.hid hkl
      have HB := Lib.hid (show bs = (ps[k]'(HKL.out)).2.1 ∧ nj = bs.length ∧ Rd b8 w w.heap.size pa bs from ⟨by rw [hpe], hnj, hrb⟩)
      have HA2 := HA.out
      subst HA2
      clear hpe hnj hrb hkl hlt
      by_cases h100 : nj ≤ 100
      · have t5 : decide ((100 : Int) < (nj : Int)) = false := by simp; omega
        obtain ⟨d, hd⟩ : ∃ d, d = ((k : Int) == 0) := ⟨_, rfl⟩
        have hd2 : decide ((k : Int) = 0) = d := by rw [hd]; rfl
        have HReg := Lib.hid (fun Q a0 => cl12_law Q a0 wr (LT g fb mb ps (k + 1)) g fb mb kb nj cp k N c (some ad) pa ad d rfl lt2 lt1 hd.symm hd2 HKB.out.2.lt HX.out.2.1 (Nat.lt_of_lt_of_le HR.out.2.2 HKB.out.1.size) (fun e => by have := (HX.out.1 _ e).1; have := HR.out.2.2; omega) (fun j e => Nat.lt_of_lt_of_le (HX.out.1 j e).2 HK.out.2.size) y0 y1 ck
          (fun V hV => lt_put k HKL.out (HK.out.1.below hV) pa bs nj cp HB.out.1 HB.out.2.1 (by omega) ((HB.out.2.2.below (HKB.out.1.trans (hV.mono HKB.out.1.size))).more (Nat.le_trans HKB.out.1.size hV.size)) (fun a e hne e2 => by
            obtain ⟨a', e3, hlt, _⟩ := HB.out.2.2 0 (List.length_pos_iff.2 hne)
            rw [e] at e3
            injection e3 with e3
            have := (HX.out.1 _ e2).1
            rw [e3] at this
            omega) d hd.symm)
          (fun W W' h hb => h.below hb) (fun W W' b h h1 h2 h3 => h.out h1 h2 h3))
        clear hd hd2 h100
        go_wp2_with fail
        refine HReg.out _ _ rfl rfl rfl rfl rfl ?_
        intro b V hT hkV hbV hsb
        have HT := Lib.hid (show LT g fb mb ps (k + 1) V ∧ Kept (Cx g fb mb) W3 V from ⟨hT, HK.out.2.trans hkV⟩)
        obtain ⟨z0, z1, z2, z3, z4⟩ := (show Bk V b 32 #[.int .i64 0, .int .i64 0, .slice none 0 0, .bool false, .bool false] from hbV).fiveG
        simp only [putA, putD, Act.put, List.setIfInBounds_toArray, List.set_cons_zero, List.set_cons_succ]
        clear hT hkV hbV hsb HReg y0 y1 ck
        go_wp2_with fail
        exact ⟨⟨k + 1, by omega, by simp, HT⟩, by simp only [Go.RowKit.intOf]; omega⟩
      · have t5 : decide ((100 : Int) < (nj : Int)) = true := by simp; omega
        clear h100
        go_wp2_with fail
        go_ret
        exact ⟨rfl, HKB.out.1⟩
    · have hkN : k = N := by omega
      subst hkN
      obtain ⟨J, hJ⟩ : ∃ J, k = J + 1 := ⟨k - 1, by have := HL.out; omega⟩
      have hjl : J < ps.length := by have := HL.out; omega
      have HJ := Lib.hid (And.intro hJ hjl)
      have HF : ∃ f : Fr, CaAt wr g fb mb 3 [f, frZ, frZ] 0 [((1, 7), 0)] none ∧ f.k = (1, 7) ∧ f.full = true ∧ f.dirty = true ∧ f.b = (ps[J]'(HJ.out.2)).2.1 := by
        have h := HK.out.1
        rw [hJ] at h
        obtain ⟨f, q1, q2, q3, q4, q5⟩ := h
        exact ⟨f, q1, q2, q3, q4, q5 hjl⟩
      obtain ⟨f, q1, q2, q3, q4, q5⟩ := HF
      have HF := Lib.hid (And.intro q1 (And.intro q2 (And.intro q3 (And.intro q4 q5))))
      have l1 : decide ((k : Int) < (k : Int)) = false := by simp
      clear q1 q2 q3 q4 q5 hJ hjl hlt hk
      obtain ⟨bs, hbs⟩ : ∃ b, b = f.b := ⟨_, rfl⟩
      obtain ⟨nb, hnb⟩ : ∃ n, n = bs.length := ⟨_, rfl⟩
      have HBS := Lib.hid (show bs = f.b ∧ nb = bs.length ∧ True from ⟨hbs, hnb, trivial⟩)
      clear hbs hnb
      cases cl with
      | true =>
        have HCl := Lib.hid (clean_hit HF.out.1 (1, 7) (kw2 1 7 (by decide) (by decide)) 0 (by simp) HF.out.2.2.1 HF.out.2.1)
        go_wp2_with fail
        refine Calls.mono HCl.out ?_
        rintro e w5 ⟨rfl, h5, k5⟩
        have H5 := Lib.hid (show CaAt w5 g fb mb 3 [Fr.clean f, frZ, frZ] 0 [((1, 7), 0)] none ∧ Kept (Cx g fb mb) W3 w5 from ⟨h5, HK.out.2.trans k5⟩)
        obtain ⟨x0, x1⟩ := (k5.bk HKB.out.2 HX.out.2.1).two
        clear h5 k5 HCl y0 y1
        have HG := Lib.hid (show Calls Try.prog 9 #[.pointer (some ⟨g, 0, none⟩), .agg #[.int .i64 1, .int .i64 7]] w5 fun e w' => ∃ A c, e = .returned (.tuple #[.slice A nb c, .bool true]) ∧ (Rd b8 w' w'.heap.size A bs ∧ ∀ a, A = some a → w5.heap.size ≤ a.block) ∧ CaAt w' g fb mb 3 [Fr.read (Fr.clean f), frZ, frZ] 0 [((1, 7), 0)] none ∧ Kept (Cx g fb mb) w5 w' from by
          have := get_hit H5.out.1 (1, 7) (kw2 1 7 (by decide) (by decide)) 0 (by simp) HF.out.2.2.1 HF.out.2.1
          rw [HBS.out.2.1, HBS.out.1]
          exact this)
        go_wp2_with fail
        refine Calls.mono HG.out ?_
        rintro e w6 ⟨A6, c6, rfl, ⟨r6, _⟩, h6, k6⟩
        have hbw6 : Below w.heap.size w w6 := HX.out.2.2.trans ((H5.out.2.trans k6).below HX.out.2.2.size (fun j e => (HX.out.1 j e).1))
        have HD := Lib.hid (show 0 = (dkL [Fr.read (Fr.clean f), frZ, frZ]).length ∧ 0 ≤ 1 from ⟨by simp [dkL, Fr.read, Fr.clean, frZ, HF.out.2.2.1, HF.out.2.2.2.1], by decide⟩)
        have c6_ := HC.out w6 hbw6 J HJ.out.2
        have HReg := Lib.hid (fun Q a0 => last_reg Q a0 w6 g fb mb 3 0 k c J nb c6 (ps[J]'(HJ.out.2)).2.2 0 A A6 (ps[J]'(HJ.out.2)).1 ad [Fr.read (Fr.clean f), frZ, frZ] [((1, 7), 0)] bs (strB bs) true HA.out (by have := HJ.out.1; omega) (by have := HJ.out.1; omega) (by omega) (by have := HL.out; have := HJ.out.1; omega) (Lib.hid rfl) (Lib.hid HBS.out.2.1) r6
          (by have h9 := HR.out.2.1 _ (List.getElem_mem HJ.out.2); rw [← HF.out.2.2.2.2, ← HBS.out.1] at h9; exact (h9.below hbw6).more hbw6.size) (Nat.lt_of_lt_of_le HR.out.2.2 hbw6.size) (by rw [HBS.out.2.1, HBS.out.1, HF.out.2.2.2.2]; exact c6_) h6 HD rfl rfl)
        have HB6 := Lib.hid hbw6
        clear r6 h6 k6 hbw6 c6_ HG HD
        go_wp2_with fail
        refine HReg.out _ _ rfl rfl rfl rfl rfl rfl ?_
        intro vals w7 hG h4
        unfold IsV at h4
        simp only [putD, Act.put, List.setIfInBounds_toArray, List.set_cons_zero, List.set_cons_succ, h4]
        have HE := Lib.hid (HB6.out.trans (hG.mono HB6.out.size))
        clear hG h4 HReg
        go_wp2_with fail
        go_ret
        exact ⟨rfl, HE.out⟩
      | false =>
        have H5 := Lib.hid (show CaAt wr g fb mb 3 [f, frZ, frZ] 0 [((1, 7), 0)] none ∧ Kept (Cx g fb mb) W3 wr from ⟨HF.out.1, HK.out.2⟩)
        have HG := Lib.hid (show Calls Try.prog 9 #[.pointer (some ⟨g, 0, none⟩), .agg #[.int .i64 1, .int .i64 7]] wr fun e w' => ∃ A c, e = .returned (.tuple #[.slice A nb c, .bool true]) ∧ (Rd b8 w' w'.heap.size A bs ∧ ∀ a, A = some a → wr.heap.size ≤ a.block) ∧ CaAt w' g fb mb 3 [Fr.read f, frZ, frZ] 0 [((1, 7), 0)] none ∧ Kept (Cx g fb mb) wr w' from by
          have := get_hit H5.out.1 (1, 7) (kw2 1 7 (by decide) (by decide)) 0 (by simp) HF.out.2.2.1 HF.out.2.1
          rw [HBS.out.2.1, HBS.out.1]
          exact this)
        go_wp2_with fail
        refine Calls.mono HG.out ?_
        rintro e w6 ⟨A6, c6, rfl, ⟨r6, _⟩, h6, k6⟩
        have hbw6 : Below w.heap.size w w6 := HX.out.2.2.trans ((H5.out.2.trans k6).below HX.out.2.2.size (fun j e => (HX.out.1 j e).1))
        have HD := Lib.hid (show 1 = (dkL [Fr.read f, frZ, frZ]).length ∧ 1 ≤ 1 from ⟨by simp [dkL, Fr.read, Fr.clean, frZ, HF.out.2.2.1, HF.out.2.2.2.1], by decide⟩)
        have c6_ := HC.out w6 hbw6 J HJ.out.2
        have HReg := Lib.hid (fun Q a0 => last_reg Q a0 w6 g fb mb 3 0 k c J nb c6 (ps[J]'(HJ.out.2)).2.2 1 A A6 (ps[J]'(HJ.out.2)).1 ad [Fr.read f, frZ, frZ] [((1, 7), 0)] bs (strB bs) false HA.out (by have := HJ.out.1; omega) (by have := HJ.out.1; omega) (by omega) (by have := HL.out; have := HJ.out.1; omega) (Lib.hid rfl) (Lib.hid HBS.out.2.1) r6
          (by have h9 := HR.out.2.1 _ (List.getElem_mem HJ.out.2); rw [← HF.out.2.2.2.2, ← HBS.out.1] at h9; exact (h9.below hbw6).more hbw6.size) (Nat.lt_of_lt_of_le HR.out.2.2 hbw6.size) (by rw [HBS.out.2.1, HBS.out.1, HF.out.2.2.2.2]; exact c6_) h6 HD rfl rfl)
        have HB6 := Lib.hid hbw6
        clear r6 h6 k6 hbw6 c6_ HG HD
        go_wp2_with fail
        refine HReg.out _ _ rfl rfl rfl rfl rfl rfl ?_
        intro vals w7 hG h4
        unfold IsV at h4
        simp only [putD, Act.put, List.setIfInBounds_toArray, List.set_cons_zero, List.set_cons_succ, h4]
        have HE := Lib.hid (HB6.out.trans (hG.mono HB6.out.size))
        clear hG h4 HReg
        go_wp2_with fail
        go_ret
        exact ⟨rfl, HE.out⟩
theorem last_w (w : World) (A : Option Addr) (ps : List Pt) (c : Nat) (_ : ps.length ≤ c) (_ : c ≤ maxLen) (hr : Rd Pt.v w w.heap.size A ps) (hp : ∀ x ∈ ps, x.2.1.length ≤ x.2.2 ∧ Rd b8 w w.heap.size x.1 x.2.1) (cl : Bool) : Calls Try.prog 5 #[.slice A ps.length c, .bool cl] w (TruP (.bool true) w) :=
  last_walk w A ps c cl hr (fun x hx => (hp x hx).2)
end Go.Proofs.Ythmaofbnhfgfaaa
namespace Go.Proofs.Ythmaofbnhfgfaaa.cacheLast
open Go.ChangeShapes Go.WideShapes Go.ChangeAt Go.RowKit
open Go.ChangeMaps (open_string shut_string)
set_option linter.unusedVariables false
set_option maxRecDepth 100000 in
theorem lifted (os : Os) (started : os.Started) (H : Type) (enc : TypeId × Value → H) :
    ReturnsInHanded {} Try.checked os 5 .any (Rows.cacheLastSpec.pre6 enc Try.prog Try.f5 Rows.cacheLastRow.domain false) (Rows.cacheLastSpec.post enc Try.prog Try.f5 false true false false) := by
  refine returnsInHanded_of_change (C := Try.checked) own started (by kernel_rfl) Try.func5
    (ChangeSpec.witness6 (enc := enc) (C := Try.checked) false ⟨#[], #[.slice none 0 0, .bool false], []⟩ 8 (by kernel_rfl) (by kernel_rfl) (by kernel_rfl) (by kernel_rfl)) ?_
  intro W base args ds gs before hval0 hW hcnd _
  have hval : ∀ (j : Nat) t v, Try.f5.params[j]? = some t → args[j]? = some v → Value.okWide Try.prog W .any base t v := hval0
  have hW' := hW
  obtain ⟨p, q, hA0, hV, rfl, hfz, hnd⟩ := hW
  have hA : DataW.TrodAll enc Try.prog W 0 (fun _ => true) true Try.f5.params.toList args.toList ds p := hA0
  rw [Try.params5] at hA hval
  obtain ⟨v0, vs0, d0, ds0, p0, q0, hargs, rfl, rfl, h0, r0⟩ := trodAll_cons hA
  obtain ⟨v1, vs1, d1, ds1, p1, q1, rfl, rfl, rfl, h1, r1⟩ := trodAll_cons r0
  obtain ⟨rfl, rfl, rfl⟩ := trodAll_nil r1
  obtain rfl : args = #[v0, v1] := by cases args; simp_all
  obtain ⟨rfl, rfl⟩ := trodVars_none hV
  have k0 := h0
  have lt0 : ∀ x ∈ p0, x.block < W.heap.size := by obtain ⟨m, hm⟩ := k0; exact DataW.trod_lt m _ _ _ hm
  obtain ⟨A0, a0, c0, e0v, g0, m0, r0r, w0⟩ := open_parts Try.underlying40 Try.underlying30 Try.underlying5 (by kernel_rfl) (by kernel_rfl) (hval 0 40 v0 rfl rfl) h0; subst e0v
  have k1 := h1
  have lt1 : ∀ x ∈ p1, x.block < W.heap.size := by obtain ⟨m, hm⟩ := k1; exact DataW.trod_lt m _ _ _ hm
  obtain ⟨a1, e1v, _, _⟩ := open_bool Try.underlying4 (hval 1 4 v1 rfl rfl) h1; subst e1v
  clear hA0 hval0
  refine (last_w W A0 a0 c0 g0 m0 r0r w0 a1).mono fun e W' ⟨he, bel⟩ => ?_
  subst he
  exact ⟨_, rfl, _, _, _, [], _, [], hW', trodAll_mk1 (shut_bool Try.underlying4 _), (trodAll_cons_mk (Below.trod laidOut (by kernel_rfl) (of_decide_eq_true (by kernel_rfl)) k0 bel lt0) (trodAll_cons_mk (Below.trod laidOut (by kernel_rfl) (of_decide_eq_true (by kernel_rfl)) k1 bel lt1) trodAll_mk0)), rfl, bel.frame _, fun h => by cases h⟩
theorem over : Rows.cacheLastRow.holds Try.pinned (OpenSpec.ofChange Rows.cacheLastSpec) :=
  OpenClaim.holds_of_wide 5 Try.f5 rfl rfl rfl rfl rfl rfl rfl ⟨rfl, rfl, rfl, rfl, rfl⟩ rfl rfl rfl rfl rfl (by kernel_rfl) Try.func5 (by kernel_rfl)
    (of_decide_eq_true (by kernel_rfl)) (by unfold Func.isWrapper; first | (rw [if_pos (by decide +kernel)]; kernel_rfl) | (rw [if_neg (by decide +kernel)]; exact ⟨rfl, rfl⟩))
    (fun os started H enc _ => lifted os started H enc)
theorem proved : Rows.CacheLastSaid := over
end Go.Proofs.Ythmaofbnhfgfaaa.cacheLast
