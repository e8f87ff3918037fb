/- The law SumsAny of layer 2 returns true for every argument. No conditions. -/
import Derived.Test.YtgdgajieekkmdaaAnyR
namespace Go.Proofs.Ytgdgajieekkmdaa
open Go.RowKit
set_option maxRecDepth 100000
theorem sumC_nil : sumC [] = addC 0#32 [] := by decide +kernel
theorem flat_snoc (ps : List Pt) (k : Nat) (h : k < ps.length) : ((ps.take (k + 1)).map Pt.l).flatten = ((ps.take k).map Pt.l).flatten ++ ps[k].2.1 := by
  rw [take_snoc' _ _ h, List.map_append, List.flatten_append]
  simp [Pt.l]
theorem flat_len (ps : List Pt) (k : Nat) (h : ∀ x ∈ ps.take k, x.2.1.length ≤ 300) : ((ps.take k).map Pt.l).flatten.length ≤ 300 * k := by
  have : ∀ l : List Pt, (∀ x ∈ l, x.2.1.length ≤ 300) → ((l.map Pt.l).flatten).length ≤ 300 * l.length := by
    intro l
    induction l with
    | nil => intro _; simp
    | cons x l ih =>
      intro h
      have h1 := h x (.head _)
      have h2 := ih fun y hy => h y (.tail _ hy)
      simp only [List.map_cons, List.flatten_cons, List.length_append, List.length_cons]
      unfold Pt.l at h2 ⊢
      omega
  have h1 := this (ps.take k) h
  have h2 : (ps.take k).length ≤ k := List.length_take_le _ _
  omega
set_option maxHeartbeats 800000
theorem any_walk (w : World) (A : Option Addr) (ps : List Pt) (c : Nat) (hc : ps.length ≤ c) (_hm : c ≤ maxLen) (hr : Rd Pt.v w w.heap.size A ps) (hp : ∀ x ∈ ps, x.2.1.length ≤ x.2.2 ∧ Rd b8 w w.heap.size x.1 x.2.1)
    (B : Option Addr) (ys : List (BitVec 8)) (d : Nat) (hd : ys.length ≤ d) (_hm2 : d ≤ maxLen) (hr2 : Rd b8 w w.heap.size B ys) :
    Calls Try.prog 3 #[.slice A ps.length c, .slice B ys.length d] w (TruP (.bool true) w) := by
  have HP := Lib.hid hp
  clear hp
  by_cases hl : ps.length ≤ 20 ∧ ys.length ≤ 1000
  · obtain ⟨hl1, hl2⟩ := hl
    have t1 : decide ((20 : Int) < (ps.length : Int)) = false := by simp; omega
    have t2 : decide ((1000 : Int) < (ys.length : Int)) = false := by simp; omega
    go_enter Try.func3, Try.ntmps3
    go_wp2_with fail
    refine (known_c _).mono ?_
    rintro e w1 ⟨rfl, hb1⟩
    go_wp2_with fail
    refine (sum_c [] none 0 _ Rd.nil (fun p hp => by cases hp) (by simp)).mono ?_
    rintro e w2 ⟨rfl, hb2⟩
    have hB2 := hb1.trans (hb2.mono hb1.size)
    clear hb1 hb2
    go_wp2_with fail
    go_loopw [5, 6, 7] (fun v s i wr => ∃ k : Nat, k ≤ ps.length ∧ i = .int .i64 k ∧ Hid (∀ x ∈ ps.take k, x.2.1.length ≤ 300) ∧ s = .int .u32 (U32 (addC 0#32 ((ps.take k).map Pt.l).flatten)) ∧ Ow b8 5 wr w.heap.size v ((ps.take k).map Pt.l).flatten ∧ Below w.heap.size w wr) (fun _ _ i _ => ps.length - (intOf i).toNat)
    case atStart => exact ⟨0, by omega, rfl, Lib.hid (fun x hx => absurd hx (by simp)), by rw [sumC_nil]; rfl, Ow.nil_ _ _ _ _, hB2⟩
    case round =>
      obtain ⟨k, hk, rfl, h3, rfl, ho, hB⟩ := hrel
      by_cases hlt : k < ps.length
      · obtain ⟨ad, rfl, hab, hac⟩ := (hr.below hB).at_ hlt
        obtain ⟨hq1, hq2⟩ := HP.out ps[k] (List.getElem_mem _)
        have hfs := flat_snoc ps k hlt
        have hfl := flat_len ps k h3.out
        have hmem : ∀ x ∈ ps.take (k + 1), x ∈ ps.take k ∨ x = ps[k] := by
          intro x hx
          rw [take_snoc' _ _ hlt, List.mem_append, List.mem_singleton] at hx
          exact hx
        obtain ⟨q, hqq⟩ : ∃ q, q = ps[k] := ⟨_, rfl⟩
        obtain ⟨zs, hzz⟩ : ∃ zs, zs = ((ps.take k).map Pt.l).flatten := ⟨_, rfl⟩
        rw [← hqq] at hac hq1 hq2 hfs hmem
        rw [← hzz] at ho hfs hfl ⊢
        obtain ⟨qa, ql, qc⟩ := q
        change wr.cell? (ad.add k) = some (.slice qa ql.length qc) at hac
        simp only at hq1 hq2 hfs
        have HF := Lib.hid hfs
        have HM := Lib.hid hmem
        clear hfs hqq hzz hmem
        have p1 : (0 : Int) ≤ (k : Int) := by omega
        have p2 : (k : Int) < (ps.length : Int) := by omega
        by_cases hq3 : ql.length ≤ 300
        · have t3 : decide ((300 : Int) < (ql.length : Int)) = false := by simp; omega
          go_wp2_with (at_builtin; refine wp_app one8 b8_one rfl (.tmp 31) (.tmp 35) rfl w.heap.size _ zs rfl ho qa ql.length qc ql rfl rfl w.heap.size (hq2.below hB) (by omega) (by decide) hB.size ?_; intro v4 w4 ho4 hb4 hg4 _; have hB4 := hB.trans hb4; have hac4 := (hb4.cell (p := ad.add k) (by rw [add_block]; exact hab)).trans hac)
          refine (add_c _ ql qa qc w4 ((hq2.below hB4).more hB4.size) (by omega)).mono ?_
          rintro e w5 ⟨rfl, hb5⟩
          go_wp2_with fail
          go_roundw
          case rel =>
            refine ⟨k + 1, by omega, by go_num, ?_, ?_, ?_, hB4.trans (hb5.mono hB4.size)⟩
            · refine Lib.hid fun x hx => ?_
              rcases HM.out x hx with h | rfl
              · exact h3.out x h
              · exact hq3
            · rw [HF.out, addC_append]
            · rw [HF.out]; exact ho4.below hb5
          case measure => (first | (simp [intOf]; done) | (simp [intOf]; omega))
        · have t3 : decide ((300 : Int) < (ql.length : Int)) = true := by simp; omega
          go_wp2_with fail
          go_ret
          exact ⟨rfl, hB⟩
      · have hkk : k = ps.length := by omega
        subst hkk
        rw [List.take_length] at h3
        rw [List.take_length] at ho
        have hfl := flat_len ps ps.length (by rw [List.take_length]; exact h3.out)
        rw [List.take_length] at hfl
        rw [List.take_length]
        obtain ⟨zs, hzz⟩ : ∃ zs, zs = (ps.map Pt.l).flatten := ⟨_, rfl⟩
        rw [← hzz] at ho hfl ⊢
        have HZ := Lib.hid hzz.symm
        clear hzz
        obtain ⟨Z, cz, rfl, _⟩ := ho.form
        have hrd := ho.rd
        have hB' : Below w.heap.size w wr := hB
        go_wp2_with fail
        refine any_reg _ _ _ A B Z ps ys zs c d cz HZ ((hr.below hB).more hB.size) (Lib.hid fun p h => ⟨((HP.out p h).2.below hB).more hB.size, h3.out p h⟩) hl1 ((hr2.below hB).more hB.size) hl2 hd hrd (by omega) rfl rfl rfl rfl rfl ?_
        intro vals w1 hG h4
        change vals _ = _ at h4
        simp only [putD, Act.put, List.setIfInBounds_toArray, List.set_cons_zero, List.set_cons_succ, h4]
        have hfin := hB.trans (hG.mono hB.size)
        clear h4 hG hB hB'
        go_wp2_with fail
        go_ret
        exact ⟨rfl, hfin⟩
  · go_enter Try.func3, Try.ntmps3
    go_wp2_with (go_at_call 15; refine (known_c _).mono ?_; rintro e w1 ⟨rfl, hb1⟩)
    all_goals first
      | (exfalso; omega)
      | (go_ret; exact ⟨rfl, hb1⟩)
end Go.Proofs.Ytgdgajieekkmdaa
namespace Go.Proofs.Ytgdgajieekkmdaa.sumsAny
open Go.ChangeShapes Go.WideShapes Go.ChangeAt Go.RowKit
open Go.ChangeMaps (open_string shut_string)
set_option linter.unusedVariables false
set_option maxRecDepth 100000 in
theorem lifted (os : Os) (started : os.Started) (H : Type) (enc : TypeId × Value → H) :
    ReturnsInHanded {} Try.checked os 3 .any (Rows.sumsAnySpec.pre6 enc Try.prog Try.f3 Rows.sumsAnyRow.domain false) (Rows.sumsAnySpec.post enc Try.prog Try.f3 false true false false) := by
  refine returnsInHanded_of_change (C := Try.checked) own started (by kernel_rfl) Try.func3
    (ChangeSpec.witness6 (enc := enc) (C := Try.checked) false ⟨#[], #[.slice none 0 0, .slice none 0 0], []⟩ 8 (by kernel_rfl) (by kernel_rfl) (by kernel_rfl) (by kernel_rfl)) ?_
  intro W base args ds gs before hval0 hW hcnd _
  have hval : ∀ (j : Nat) t v, Try.f3.params[j]? = some t → args[j]? = some v → Value.okWide Try.prog W .any base t v := hval0
  have hW' := hW
  obtain ⟨p, q, hA0, hV, rfl, hfz, hnd⟩ := hW
  have hA : DataW.TrodAll enc Try.prog W 0 (fun _ => true) true Try.f3.params.toList args.toList ds p := hA0
  rw [Try.params3] at hA hval
  obtain ⟨v0, vs0, d0, ds0, p0, q0, hargs, rfl, rfl, h0, r0⟩ := trodAll_cons hA
  obtain ⟨v1, vs1, d1, ds1, p1, q1, rfl, rfl, rfl, h1, r1⟩ := trodAll_cons r0
  obtain ⟨rfl, rfl, rfl⟩ := trodAll_nil r1
  obtain rfl : args = #[v0, v1] := by cases args; simp_all
  obtain ⟨rfl, rfl⟩ := trodVars_none hV
  have k0 := h0
  have lt0 : ∀ x ∈ p0, x.block < W.heap.size := by obtain ⟨m, hm⟩ := k0; exact DataW.trod_lt m _ _ _ hm
  obtain ⟨A0, a0, c0, e0v, g0, m0, r0r, w0⟩ := open_parts Try.underlying22 Try.underlying23 Try.underlying5 (by kernel_rfl) (by kernel_rfl) (hval 0 22 v0 rfl rfl) h0; subst e0v
  have k1 := h1
  have lt1 : ∀ x ∈ p1, x.block < W.heap.size := by obtain ⟨m, hm⟩ := k1; exact DataW.trod_lt m _ _ _ hm
  obtain ⟨A1, a1, c1, e1v, g1, m1, w1⟩ := open_bytes Try.underlying23 Try.underlying5 (by kernel_rfl) (hval 1 23 v1 rfl rfl) h1; subst e1v
  clear hA0 hval0
  refine (any_walk W A0 a0 c0 g0 m0 r0r w0 A1 a1 c1 g1 m1 w1).mono fun e W' ⟨he, bel⟩ => ?_
  subst he
  exact ⟨_, rfl, _, _, _, [], _, [], hW', trodAll_mk1 (shut_bool Try.underlying4 _), (trodAll_cons_mk (Below.trod laidOut (by kernel_rfl) (of_decide_eq_true (by kernel_rfl)) k0 bel lt0) (trodAll_cons_mk (Below.trod laidOut (by kernel_rfl) (of_decide_eq_true (by kernel_rfl)) k1 bel lt1) trodAll_mk0)), rfl, bel.frame _, fun h => by cases h⟩
theorem over : Rows.sumsAnyRow.holds Try.pinned (OpenSpec.ofChange Rows.sumsAnySpec) :=
  OpenClaim.holds_of_wide 3 Try.f3 rfl rfl rfl rfl rfl rfl rfl ⟨rfl, rfl, rfl, rfl, rfl⟩ rfl rfl rfl rfl rfl (by kernel_rfl) Try.func3 (by kernel_rfl)
    (of_decide_eq_true (by kernel_rfl)) (by unfold Func.isWrapper; first | (rw [if_pos (by decide +kernel)]; kernel_rfl) | (rw [if_neg (by decide +kernel)]; exact ⟨rfl, rfl⟩))
    (fun os started H enc _ => lifted os started H enc)
theorem proved : Rows.SumsAnySaid := over
end Go.Proofs.Ytgdgajieekkmdaa.sumsAny
