/- The law DiskArms of layer 3 returns true for every argument. No conditions. -/
import Derived.Test.YtfcbmdmkdjaoaaaDkO
import Derived.Test.YtfcbmdmkdjaoaaaFrame
namespace Go.Proofs.Ytfcbmdmkdjaoaaa
set_option linter.unusedVariables false
set_option linter.unusedSimpArgs false
open Go.RowKit Go.Maps
/-- Behind i writes on a disk that is armed at the w-th. -/
def ArmS (W i : Nat) (d : DK) : Prop := d.secs = 4 ∧ d.size = 64 ∧ ((i < W ∧ d.off = false ∧ d.armed = W - i ∧ d.pend.length = i ∧ d.writes = i) ∨ (W ≤ i ∧ d.off = true ∧ d.pend = [] ∧ d.writes = W - 1))
theorem ArmS.ok {W i : Nat} {d : DK} (h : ArmS W i d) (hi : i + 1 < W) (s : Nat) (bs : List (BitVec 8)) : ArmS W (i + 1) (({ d with armed := d.armed - 1 } : DK).push s bs) := by
  obtain ⟨h1, h2, h3⟩ := h
  refine ⟨h1, h2, .inl ?_⟩
  rcases h3 with ⟨_, e1, e2, e3, e4⟩ | ⟨e, _⟩
  · refine ⟨hi, e1, ?_, ?_, ?_⟩
    · show d.armed - 1 = _; omega
    · show (d.pend ++ [(s, bs)]).length = _; rw [List.length_append, e3]; rfl
    · show d.writes + 1 = _; omega
  · omega
theorem ArmS.cut {W i : Nat} {d : DK} (h : ArmS W i d) (hi : i + 1 = W) (kp : List Bool) : ArmS W (i + 1) (d.cut kp) := by
  obtain ⟨h1, h2, h3⟩ := h
  refine ⟨h1, h2, .inr ⟨by omega, rfl, rfl, ?_⟩⟩
  rcases h3 with ⟨_, e1, e2, e3, e4⟩ | ⟨e, _⟩
  · show d.writes = _; omega
  · omega
theorem ArmS.off {W i : Nat} {d : DK} (h : ArmS W i d) (hi : W ≤ i) : d.off = true ∧ d.pend = [] ∧ d.writes = W - 1 ∧ ArmS W (i + 1) d := by
  obtain ⟨h1, h2, h3⟩ := h
  rcases h3 with ⟨e, _⟩ | ⟨_, e1, e2, e3⟩
  · omega
  · exact ⟨e1, e2, e3, h1, h2, .inr ⟨by omega, e1, e2, e3⟩⟩
theorem ArmS.on {W i : Nat} {d : DK} (h : ArmS W i d) (hi : i < W) : d.off = false ∧ d.armed = W - i ∧ d.pend.length = i ∧ d.writes = i := by
  obtain ⟨h1, h2, h3⟩ := h
  rcases h3 with ⟨_, e⟩ | ⟨e, _⟩
  · exact e
  · omega
set_option maxHeartbeats 400000
set_option maxRecDepth 100000
theorem q1_arm {w : World} {B g : Nat} (h : DiskX B (fun _ => False) w g k3d0) (hB : B ≤ w.heap.size) (n : Nat) (hn : n ≤ 100) : Calls Try.prog 16 #[.pointer (some ⟨g, 0, none⟩), .int .i64 n, .slice none 0 0] w (DkP B (fun _ => False) w g (k3d0.arm (max n 1) []) (.tuple #[])) := by
  have := xarm_c h (fun k e => e.elim) hB (n : Int) (by omega) none [] 0 Rd.nil (fun a e => by cases e) (by simp)
  rw [show (max (n : Int) 1).toNat = max n 1 by omega] at this
  exact this
theorem arms_walk (w : World) (a : Int) (wa : (Lit.int .u8 a).wf = true) (b : Int) (wb : (Lit.int .u8 b).wf = true) : Calls Try.prog 6 #[.int .u8 a, .int .u8 b] w (TruP (.bool true) w) := by
  have ha : 0 ≤ a ∧ a ≤ 255 := by simpa [Lit.wf, IntKind.min, IntKind.max, IntKind.signed, IntKind.bits] using wa
  have hb : 0 ≤ b ∧ b ≤ 255 := by simpa [Lit.wf, IntKind.min, IntKind.max, IntKind.signed, IntKind.bits] using wb
  obtain ⟨a1, a2⟩ := ha
  obtain ⟨b1, b2⟩ := hb
  obtain ⟨K, hK⟩ : ∃ K : Nat, a % 30 = (K : Int) := ⟨(a % 30).toNat, by omega⟩
  obtain ⟨M, hM⟩ : ∃ M : Nat, b % 10 = (M : Int) := ⟨(b % 10).toNat, by omega⟩
  have q1 : (K : Int) ≤ 29 := by omega
  have q2 : (M : Int) ≤ 9 := by omega
  obtain ⟨W, hW⟩ : ∃ W, W = max K 1 := ⟨_, rfl⟩
  have HW := Lib.hid hW
  clear wa wb hW
  go_enter Try.func6, Try.ntmps6
  go_wp2_with fail
  refine Calls.mono (known3_c w) ?_
  rintro e w1 ⟨rfl, d1⟩
  have HB1 := Lib.hid d1
  clear d1
  go_wp2_with fail
  refine Calls.mono (k3_new w1) ?_
  rintro e w2 ⟨g, rfl, h2, d2⟩
  have H2 := Lib.hid h2
  have HB2 := Lib.hid d2
  clear h2 d2
  go_wp2_with fail
  refine Calls.mono (q1_arm H2.out HB2.out.size K (by omega)) ?_
  rintro e w3 ⟨rfl, h3, k3⟩
  have H3 := Lib.hid h3
  have HB3 := Lib.hid (HB2.out.trans (k3.below HB2.out.size (fun _ e => e.1)))
  have HS3 := Lib.hid (show ArmS W 0 (k3d0.arm (max K 1) []) from ⟨rfl, rfl, .inl ⟨by have := HW.out; omega, rfl, by rw [HW.out]; rfl, rfl, rfl⟩⟩)
  clear h3 k3
  go_wp2_with fail
  go_loopw [8, 9] (fun o i wr => ∃ (k : Nat) (d : DK), k ≤ K + M + 1 ∧ i = .int .i64 k ∧ o = .int .i64 ((min k (W - 1) : Nat) : Int) ∧ Hid (ArmS W k d) ∧ Hid (DiskX w1.heap.size (fun _ => False) wr g d) ∧ Hid (Below w1.heap.size w1 wr)) (fun _ i _ => 100 - (intOf i).toNat)
  case atStart => exact ⟨0, _, by omega, rfl, by simp, HS3, H3, HB3⟩
  case round =>
    obtain ⟨k, d, hk, rfl, rfl, hs, hd, hB⟩ := hrel
    obtain ⟨o, ho⟩ : ∃ o, o = min k (W - 1) := ⟨_, rfl⟩
    rw [← ho]
    have HO := Lib.hid ho
    have hw := HW.out
    have q3 : (o : Int) ≤ 60 := by omega
    have q4 : (k : Int) ≤ 60 := by omega
    have q5 : (0 : Int) ≤ (k : Int) := by omega
    by_cases hlt : k < K + M + 1
    · have t0 : decide ((k : Int) < (K : Int) + (M : Int) + 1) = true := by simp; omega
      obtain ⟨s, hs4⟩ : ∃ s : Nat, (k : Int) % 4 = (s : Int) := ⟨k % 4, by omega⟩
      have hsl : s < 4 := by omega
      rcases Nat.lt_trichotomy (k + 1) W with hc | hc | hc
      · have tK : decide ((K : Int) < 1) = false := by simp; omega
        have tW : decide ((k : Int) + 1 < (K : Int)) = true := by simp; omega
        have HON := Lib.hid (hs.out.on (by omega))
        clear ho hw
        go_wp2_with (at_make; refine wp_make (f := b8) one8 rfl _ _ rfl (0#8) rfl wr.heap.size 64 .i64 .i64 64 64 rfl rfl rfl rfl (by decide) (by decide) (Nat.le_refl _) ?_; intro q w4 hq ho hb hg; have HQ := Lib.hid hq; have HOW := Lib.hid ho; have HB4 := Lib.hid hb; clear hq ho hb hg)
        have hql := (HOW.out.lt q rfl).2
        have HX4 := Lib.hid ((hd.out.besides (X' := fun k => k = q) (fun k e => .inr (by have := HQ.out; omega))).below HB4.out)
        have HWr := Lib.hid (xwrite_ok HX4.out (fun k e => by omega) (Nat.le_trans hB.out.size HB4.out.size) s (some ⟨q, 0, none⟩) (List.replicate 64 0#8) 64 HON.out.1 (by rw [hs.out.1]; exact hsl) (by rw [hs.out.2.1]; rfl) (by have := HON.out.2.1; omega) HOW.out.rd2 (fun a e => by injection e with e; subst e; exact .inr rfl) (by have := HON.out.2.2.1; omega) (by have := HON.out.2.2.2; omega))
        rw [List.length_replicate] at HWr
        clear hql
        go_wp2_with fail
        refine Calls.mono HWr.out ?_
        rintro e w5 ⟨rfl, h5, k5⟩
        have H5 := Lib.hid (h5.besides (X' := fun _ => False) (fun k e => e.elim))
        have HB5 := Lib.hid (hB.out.trans ((HB4.out.mono hB.out.size).trans (k5.below (Nat.le_trans hB.out.size HB4.out.size) (fun _ e => e.1))))
        have HS5 := Lib.hid (hs.out.ok hc s (List.replicate 64 0#8))
        clear h5 k5 HWr
        go_wp2_with fail
        go_roundw
        case rel => exact ⟨k + 1, _, by have := HW.out; omega, by go_num, by have := HO.out; (have e : min (k + 1) (W - 1) = o + 1 := by omega); rw [e]; go_num, HS5, H5, HB5⟩
        case measure => (first | (simp [intOf]; done) | (simp [intOf]; omega))
      · have HON := Lib.hid (hs.out.on (by omega))
        have hKc : K = 0 ∨ 1 ≤ K := by omega
        rcases hKc with hK0 | hK0
        all_goals
          first
            | (have tK : decide ((K : Int) < 1) = true := by simp; omega
               have tW : decide ((k : Int) + 1 < 1) = false := by simp; omega)
            | (have tK : decide ((K : Int) < 1) = false := by simp; omega
               have tW : decide ((k : Int) + 1 < (K : Int)) = false := by simp; omega)
          clear ho hw hK0
          go_wp2_with (at_make; refine wp_make (f := b8) one8 rfl _ _ rfl (0#8) rfl wr.heap.size 64 .i64 .i64 64 64 rfl rfl rfl rfl (by decide) (by decide) (Nat.le_refl _) ?_; intro q w4 hq ho hb hg; have HQ := Lib.hid hq; have HOW := Lib.hid ho; have HB4 := Lib.hid hb; clear hq ho hb hg)
          have HWr := Lib.hid (xwrite_cut (hd.out.below HB4.out) (fun k e => e.elim) (Nat.le_trans hB.out.size HB4.out.size) s (some ⟨q, 0, none⟩) 64 64 HON.out.1 (by rw [hs.out.1]; exact hsl) (by rw [hs.out.2.1]) (by have := HON.out.2.1; omega))
          go_wp2_with fail
          refine Calls.mono HWr.out ?_
          rintro e w5 ⟨rfl, h5, k5⟩
          have H5 := Lib.hid h5
          have HB5 := Lib.hid (hB.out.trans ((HB4.out.mono hB.out.size).trans (k5.below (Nat.le_trans hB.out.size HB4.out.size) (fun _ e => e.1))))
          have HS5 := Lib.hid (hs.out.cut hc d.keep)
          clear h5 k5 HWr
          go_wp2_with fail
          go_roundw
          case rel => exact ⟨k + 1, _, by have := HW.out; omega, by go_num, by have := HO.out; (have e : min (k + 1) (W - 1) = o := by omega); rw [e], HS5, H5, HB5⟩
          case measure => (first | (simp [intOf]; done) | (simp [intOf]; omega))
      · have HOF := Lib.hid (hs.out.off (by omega))
        have hKc : K = 0 ∨ 1 ≤ K := by omega
        rcases hKc with hK0 | hK0
        all_goals
          first
            | (have tK : decide ((K : Int) < 1) = true := by simp; omega
               have tW : decide ((k : Int) + 1 < 1) = false := by simp; omega)
            | (have tK : decide ((K : Int) < 1) = false := by simp; omega
               have tW : decide ((k : Int) + 1 < (K : Int)) = false := by simp; omega)
          clear ho hw hK0
          go_wp2_with (at_make; refine wp_make (f := b8) one8 rfl _ _ rfl (0#8) rfl wr.heap.size 64 .i64 .i64 64 64 rfl rfl rfl rfl (by decide) (by decide) (Nat.le_refl _) ?_; intro q w4 hq ho hb hg; have HQ := Lib.hid hq; have HOW := Lib.hid ho; have HB4 := Lib.hid hb; clear hq ho hb hg)
          have H4 := Lib.hid (hd.out.below HB4.out)
          have HWr := Lib.hid (xwrite_off H4.out (s : Int) (some ⟨q, 0, none⟩) 64 64 HOF.out.1)
          have HBw := Lib.hid (hB.out.trans (HB4.out.mono hB.out.size))
          go_wp2_with fail
          refine Calls.mono HWr.out ?_
          rintro e w5 ⟨rfl, rfl⟩
          clear HWr
          go_wp2_with fail
          go_roundw
          case rel => exact ⟨k + 1, _, by have := HW.out; omega, by go_num, by have := HO.out; (have e : min (k + 1) (W - 1) = o := by omega); rw [e], Lib.hid HOF.out.2.2.2, H4, HBw⟩
          case measure => (first | (simp [intOf]; done) | (simp [intOf]; omega))
    · have t0 : decide ((k : Int) < (K : Int) + (M : Int) + 1) = false := by simp; omega
      have HOF := Lib.hid (hs.out.off (by omega))
      have hwo : d.writes = o := by rw [HOF.out.2.2.1]; have := HO.out; omega
      have HF1 := Lib.hid (xoff_c hd.out)
      have HF2 := Lib.hid (xwrites_c hd.out)
      have HF3 := Lib.hid (xpending_c hd.out)
      rw [HOF.out.1] at HF1
      rw [hwo] at HF2
      rw [HOF.out.2.1] at HF3
      clear ho hw hwo hlt
      go_wp2_with fail
      refine Calls.mono HF1.out ?_
      rintro e w5 ⟨rfl, rfl⟩
      go_wp2_with fail
      refine Calls.mono HF2.out ?_
      rintro e w6 ⟨rfl, rfl⟩
      go_wp2_with fail
      refine Calls.mono HF3.out ?_
      rintro e w7 ⟨rfl, rfl⟩
      go_wp2_with fail
      go_ret
      exact ⟨rfl, HB1.out.trans (hB.out.mono HB1.out.size)⟩
end Go.Proofs.Ytfcbmdmkdjaoaaa
namespace Go.Proofs.Ytfcbmdmkdjaoaaa.diskArms
open Go.ChangeShapes Go.WideShapes Go.ChangeAt Go.RowKit
open Go.ChangeMaps (open_string shut_string)
set_option linter.unusedVariables false
set_option maxRecDepth 100000 in
theorem lifted (os : Os) (started : os.Started) (H : Type) (enc : TypeId × Value → H) :
    ReturnsInHanded {} Try.checked os 6 .any (Rows.diskArmsSpec.pre6 enc Try.prog Try.f6 Rows.diskArmsRow.domain false) (Rows.diskArmsSpec.post enc Try.prog Try.f6 false true false false) := by
  refine returnsInHanded_of_change (C := Try.checked) own started (by kernel_rfl) Try.func6
    (ChangeSpec.witness6 (enc := enc) (C := Try.checked) false ⟨#[], #[.int .u8 0, .int .u8 0], []⟩ 8 (by kernel_rfl) (by kernel_rfl) (by kernel_rfl) (by kernel_rfl)) ?_
  intro W base args ds gs before hval0 hW hcnd _
  have hval : ∀ (j : Nat) t v, Try.f6.params[j]? = some t → args[j]? = some v → Value.okWide Try.prog W .any base t v := hval0
  have hW' := hW
  obtain ⟨p, q, hA0, hV, rfl, hfz, hnd⟩ := hW
  have hA : DataW.TrodAll enc Try.prog W 0 (fun _ => true) true Try.f6.params.toList args.toList ds p := hA0
  rw [Try.params6] at hA hval
  obtain ⟨v0, vs0, d0, ds0, p0, q0, hargs, rfl, rfl, h0, r0⟩ := trodAll_cons hA
  obtain ⟨v1, vs1, d1, ds1, p1, q1, rfl, rfl, rfl, h1, r1⟩ := trodAll_cons r0
  obtain ⟨rfl, rfl, rfl⟩ := trodAll_nil r1
  obtain rfl : args = #[v0, v1] := by cases args; simp_all
  obtain ⟨rfl, rfl⟩ := trodVars_none hV
  have k0 := h0
  have lt0 : ∀ x ∈ p0, x.block < W.heap.size := by obtain ⟨m, hm⟩ := k0; exact DataW.trod_lt m _ _ _ hm
  obtain ⟨a0, e0v, _, _, w0⟩ := open_int Try.underlying5 (hval 0 5 v0 rfl rfl) h0; subst e0v
  have k1 := h1
  have lt1 : ∀ x ∈ p1, x.block < W.heap.size := by obtain ⟨m, hm⟩ := k1; exact DataW.trod_lt m _ _ _ hm
  obtain ⟨a1, e1v, _, _, w1⟩ := open_int Try.underlying5 (hval 1 5 v1 rfl rfl) h1; subst e1v
  clear hA0 hval0
  refine (arms_walk W a0 w0 a1 w1).mono fun e W' ⟨he, bel⟩ => ?_
  subst he
  exact ⟨_, rfl, _, _, _, [], _, [], hW', trodAll_mk1 (shut_bool Try.underlying4 _), (trodAll_cons_mk (Below.trod laidOut (by kernel_rfl) (of_decide_eq_true (by kernel_rfl)) k0 bel lt0) (trodAll_cons_mk (Below.trod laidOut (by kernel_rfl) (of_decide_eq_true (by kernel_rfl)) k1 bel lt1) trodAll_mk0)), rfl, bel.frame _, fun h => by cases h⟩
theorem over : Rows.diskArmsRow.holds Try.pinned (OpenSpec.ofChange Rows.diskArmsSpec) :=
  OpenClaim.holds_of_wide 6 Try.f6 rfl rfl rfl rfl rfl rfl rfl ⟨rfl, rfl, rfl, rfl, rfl⟩ rfl rfl rfl rfl rfl (by kernel_rfl) Try.func6 (by kernel_rfl)
    (of_decide_eq_true (by kernel_rfl)) (by unfold Func.isWrapper; first | (rw [if_pos (by decide +kernel)]; kernel_rfl) | (rw [if_neg (by decide +kernel)]; exact ⟨rfl, rfl⟩))
    (fun os started H enc _ => lifted os started H enc)
theorem proved : Rows.DiskArmsSaid := over
end Go.Proofs.Ytfcbmdmkdjaoaaa.diskArms
