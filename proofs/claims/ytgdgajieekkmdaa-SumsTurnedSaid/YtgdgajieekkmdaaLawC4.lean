/- The law SumsTurned of layer 2 returns true for every argument. No conditions. -/
import Derived.Test.YtgdgajieekkmdaaCrcF
import Derived.Test.YtgdgajieekkmdaaFrame
namespace Go.Proofs.Ytgdgajieekkmdaa
open Go.RowKit
theorem Ow.head {α : Type} {f : α → Value} {E : TypeId} {w : World} {base : Nat} {v : Value} {xs : List α} (h : Ow f E w base v xs) (hx : 0 < xs.length) : ∃ g cap, v = .slice (some ⟨g, 0, none⟩) xs.length cap ∧ xs.length ≤ cap := by
  rcases h.2 with ⟨rfl, hn⟩ | ⟨g, cap, cur, rfl, _, _, hnc, _⟩
  · omega
  · exact ⟨g, cap, rfl, hnc⟩
theorem bit_at (p : BitVec 32) (j : Nat) : bits .and .u32 (U32 p / 2 ^ j) 1 = if p.getLsbD j then 1 else 0 := by
  rw [shrU32, and1U32, BitVec.getLsbD_ushiftRight, Nat.add_zero]
set_option maxRecDepth 100000
set_option maxHeartbeats 800000
theorem turned_walk (w : World) (A : Option Addr) (bs : List (BitVec 8)) (c : Nat) (hc : bs.length ≤ c) (_hm : c ≤ maxLen) (hr : Rd b8 w w.heap.size A bs) (at_ : Int) (wa : (Lit.int .i64 at_).wf = true) (p0 : Int) (wp : (Lit.int .u32 p0).wf = true) :
    Calls Try.prog 4 #[.slice A bs.length c, .int .i64 at_, .int .u32 p0] w (TruP (.bool true) w) := by
  obtain ⟨ha1, ha2⟩ := wf64 wa
  obtain ⟨p, rfl⟩ : ∃ p, p0 = U32 p := ⟨_, wfu32 wp⟩
  clear wa wp
  by_cases hl : 4 ≤ bs.length ∧ bs.length ≤ 300 ∧ 0 ≤ at_ ∧ p ≠ 0#32
  · obtain ⟨hl1, hl2, hl3, hp⟩ := hl
    have hp0 : (U32 p == 0) = false := by
      rw [show (0 : Int) = U32 0#32 from by decide +kernel, beqU32, beq_eq_false_iff_ne]; exact hp
    have t1 : decide ((bs.length : Int) < 4) = false := by simp; omega
    have t2 : decide ((300 : Int) < (bs.length : Int)) = false := by simp; omega
    have t3 : decide (at_ < 0) = false := by simp; omega
    have HPN := Lib.hid hp
    clear hp
    go_enter Try.func4, Try.ntmps4
    go_wp2_with fail
    refine (known_c _).mono ?_
    rintro e w1 ⟨rfl, hb1⟩
    have ho0 := ow_empty b8 5 w1 w.heap.size hb1.size
    go_wp2_with (at_builtin; refine wp_app one8 b8_one rfl (.tmp 34) (.tmp 35) rfl w.heap.size _ [] rfl ho0 A bs.length c bs rfl rfl w.heap.size ((hr.below hb1).alloc hb1.size _) (by simp; omega) (by decide) (by have := hb1.size; simp; omega) ?_; intro v4 w4 ho4 hb4 hg4 hv4)
    obtain ⟨g, cap, rfl, hcap⟩ := ho4.head (by simp; omega)
    rw [List.nil_append] at ho4 hcap
    have hB4 : Below w.heap.size w w4 := (hb1.alloc hb1.size _).trans hb4
    obtain ⟨k, hk⟩ : ∃ k : Nat, at_ % (8 * (bs.length : Int) - 31) = k := ⟨_, (Int.toNat_of_nonneg (Int.emod_nonneg _ (by omega))).symm⟩
    have hk2 : k + 32 ≤ 8 * bs.length := by
      have := Int.emod_lt_of_pos at_ (show 0 < 8 * (bs.length : Int) - 31 by omega)
      omega
    rw [hk]
    have HK := Lib.hid hk
    clear hk hb4 hg4 hv4 hb1 ho0 t1 t2 t3 hp0
    go_loopw [9] (fun i wr => ∃ j : Nat, j ≤ 32 ∧ i = .int .i64 j ∧ Ow b8 5 wr w.heap.size (.slice (some ⟨g, 0, none⟩) bs.length cap) (turned bs p k j) ∧ Below w.heap.size w wr) (fun i _ => 32 - (intOf i).toNat)
    case atStart => exact ⟨0, by omega, rfl, ho4, hB4⟩
    case round =>
      obtain ⟨j, hj, rfl, ho, hB⟩ := hrel
      by_cases hlt : j < 32
      · have hb := bit_at p j
        cases hpj : p.getLsbD j
        · rw [hpj] at hb
          simp only [Bool.false_eq_true, if_false] at hb
          have HT : Hid (turned bs p k j = turned bs p k (j + 1)) := Lib.hid (by
            show _ = (if p.getLsbD j then _ else _)
            rw [hpj]; rfl)
          clear hpj
          go_wp2_with fail
          go_roundw
          case rel => exact ⟨j + 1, by omega, by go_num, HT.out ▸ ho, hB⟩
          case measure => (first | (simp [intOf]; done) | (simp [intOf]; omega))
        · rw [hpj] at hb
          simp only [if_true] at hb
          have ht : turned bs p k (j + 1) = (turned bs p k j).set ((k + j) / 8) ((turned bs p k j).getD ((k + j) / 8) 0 ^^^ 1#8 <<< ((k + j) % 8)) := by
            show (if p.getLsbD j then _ else _) = _
            rw [hpj]; rfl
          have hq : (k + j) / 8 < (turned bs p k j).length := by rw [turned_len]; omega
          obtain ⟨q, hqq⟩ : ∃ q, q = (k + j) / 8 := ⟨_, rfl⟩
          obtain ⟨r, hrr⟩ : ∃ r, r = (k + j) % 8 := ⟨_, rfl⟩
          rw [← hqq, ← hrr] at ht
          rw [← hqq] at hq
          have hcell := ho.cell hq
          have hf := ho.free q
          have hge := ho.ge
          have hset := ho.set hq ((turned bs p k j).getD q 0 ^^^ 1#8 <<< r)
          rw [← ht] at hset
          have hB' := hB.setCell (p := ⟨g, q, none⟩) hge.1 (b8 ((turned bs p k j).getD q 0 ^^^ 1#8 <<< r))
          have hgd : (turned bs p k j).getD q 0 = (turned bs p k j)[q] := by rw [List.getD_eq_getElem?_getD, List.getElem?_eq_getElem hq]; rfl
          rw [hgd] at hset hB'
          obtain ⟨x, hx⟩ : ∃ x, x = (turned bs p k j)[q] := ⟨_, rfl⟩
          rw [← hx] at hset hB' hcell
          obtain ⟨y, hy⟩ : ∃ y, y = x ^^^ 1#8 <<< r := ⟨_, rfl⟩
          rw [← hy] at hset hB'
          have i1 : ((k : Int) + (j : Int)) / 8 = (q : Int) := by omega
          have i2 : ((k : Int) + (j : Int)) % 8 = (r : Int) := by omega
          have i3 : bits .xor .u8 (U8 x) (U8 (1#8 <<< r)) = U8 y := by rw [hy, xorU8]
          have i4 : IntKind.u8.wrap (2 ^ r) = U8 (1#8 <<< r) := by
            have := shlU8 1#8 r
            rwa [show U8 1#8 = 1 from by decide +kernel, Int.one_mul] at this
          have p1 : (0 : Int) ≤ (q : Int) := by omega
          have p2 : (q : Int) < (bs.length : Int) := by have := turned_len bs p k j; omega
          have p3 : (r : Int) < 8 := by omega
          have p4 : (k : Int) + j < 9000 := by omega
          unfold b8 at hcell hset hB'
          have HS := Lib.hid hset
          have HB' := Lib.hid hB'
          clear hpj hqq hrr ht hset hB' hgd hx hy hge hq
          go_wp2_with fail
          go_roundw
          case rel => exact ⟨j + 1, by omega, by go_num, HS.out, HB'.out⟩
          case measure => (first | (simp [intOf]; done) | (simp [intOf]; omega))
      · have hj32 : j = 32 := by omega
        subst hj32
        have hne := turned_ne bs p k hk2 HPN.out
        have hl32 := turned_len bs p k 32
        obtain ⟨cs, hcs⟩ : ∃ cs, cs = turned bs p k 32 := ⟨_, rfl⟩
        rw [← hcs] at hne hl32 ho
        have hl32' : cs.length ≤ 300 := by omega
        have ho' : Ow b8 5 wr w.heap.size (.slice (some ⟨g, 0, none⟩) cs.length cap) cs := by rw [hl32]; exact ho
        have hrd := ho'.rd
        have hbne : (U32 (addC 0#32 cs) != U32 (addC 0#32 bs)) = true := by
          rw [bne_iff_ne]
          exact fun h => hne (U32_inj h)
        have hbs : Rd b8 wr wr.heap.size A bs := (hr.below hB).more hB.size
        have k1 : ∀ (g2 : Nat) (w2 : World) (E : TypeId), Bk w2 g2 E #[.slice (some ⟨g, 0, none⟩) bs.length cap] → Below wr.heap.size wr w2 → Calls Try.prog 16 #[.slice (some ⟨g2, 0, none⟩) 1 1] w2 (RetP (.int .u32 (U32 (addC 0#32 cs))) w2) := fun g2 w2 E hk hb => sum1_c cs (some ⟨g, 0, none⟩) cap g2 w2 E (by rw [hl32]; exact hk) ((hrd.below hb).more hb.size) (by omega)
        have k2 : ∀ (g2 : Nat) (w2 : World) (E : TypeId), Bk w2 g2 E #[.slice A bs.length c] → Below wr.heap.size wr w2 → Calls Try.prog 16 #[.slice (some ⟨g2, 0, none⟩) 1 1] w2 (RetP (.int .u32 (U32 (addC 0#32 bs))) w2) := fun g2 w2 E hk hb => sum1_c bs A c g2 w2 E hk ((hbs.below hb).more hb.size) (by omega)
        have K1 := Lib.hid k1
        have K2 := Lib.hid k2
        clear k1 k2 hl32 hne hcs ho' ho hrd hbs
        go_wp2_with fail
        refine Calls.mono (K1.out _ _ 23 (Bk.new _ _ _) ((Below.refl _ _).alloc (Nat.le_refl _) _)) ?_
        rintro e w2 ⟨rfl, hb2⟩
        have hB2 : Below wr.heap.size wr w2 := ((Below.refl _ _).alloc (Nat.le_refl _) _).trans (hb2.mono (by simp))
        clear hb2
        go_wp2_with fail
        refine Calls.mono (K2.out _ _ 23 (Bk.new _ _ _) (hB2.alloc hB2.size _)) ?_
        rintro e w3 ⟨rfl, hb3⟩
        have hB3 : Below wr.heap.size wr w3 := (hB2.alloc hB2.size _).trans (hb3.mono (by have := hB2.size; simp; omega))
        clear hb3
        go_wp2_with fail
        go_ret
        exact ⟨rfl, hB.trans (hB3.mono hB.size)⟩
  · have hcond : bs.length < 4 ∨ 300 < bs.length ∨ at_ < 0 ∨ p = 0#32 := by
      rcases Nat.lt_or_ge bs.length 4 with h | h
      · exact .inl h
      · rcases Nat.lt_or_ge 300 bs.length with h2 | h2
        · exact .inr (.inl h2)
        · rcases Int.lt_or_le at_ 0 with h3 | h3
          · exact .inr (.inr (.inl h3))
          · right; right; right
            exact Decidable.byContradiction fun h4 => hl ⟨h, h2, h3, h4⟩
    clear hl
    have hp0 : (U32 p == 0) = decide (p = 0#32) := by
      rw [show (0 : Int) = U32 0#32 from by decide +kernel, beqU32]; rfl
    by_cases hp : p = 0#32
    · have hq : decide (p = 0#32) = true := decide_eq_true hp
      rw [hq] at hp0
      clear hp hq hcond
      go_enter Try.func4, Try.ntmps4
      go_wp2_with (go_at_call 15; refine (known_c _).mono ?_; rintro e w1 ⟨rfl, hb1⟩)
      all_goals (go_ret; exact ⟨rfl, hb1⟩)
    · have hq : decide (p = 0#32) = false := decide_eq_false hp
      rw [hq] at hp0
      have hc2 : bs.length < 4 ∨ 300 < bs.length ∨ at_ < 0 := by
        rcases hcond with h | h | h | h
        · exact .inl h
        · exact .inr (.inl h)
        · exact .inr (.inr h)
        · exact absurd h hp
      clear hp hq hcond
      go_enter Try.func4, Try.ntmps4
      go_wp2_with (go_at_call 15; refine (known_c _).mono ?_; rintro e w1 ⟨rfl, hb1⟩)
      all_goals first
        | (exfalso; omega)
        | (go_ret; exact ⟨rfl, hb1⟩)
end Go.Proofs.Ytgdgajieekkmdaa
namespace Go.Proofs.Ytgdgajieekkmdaa.sumsTurned
open Go.ChangeShapes Go.WideShapes Go.ChangeAt Go.RowKit
open Go.ChangeMaps (open_string shut_string)
set_option linter.unusedVariables false
set_option maxRecDepth 100000 in
theorem lifted (os : Os) (started : os.Started) (H : Type) (enc : TypeId × Value → H) :
    ReturnsInHanded {} Try.checked os 4 .any (Rows.sumsTurnedSpec.pre6 enc Try.prog Try.f4 Rows.sumsTurnedRow.domain false) (Rows.sumsTurnedSpec.post enc Try.prog Try.f4 false true false false) := by
  refine returnsInHanded_of_change (C := Try.checked) own started (by kernel_rfl) Try.func4
    (ChangeSpec.witness6 (enc := enc) (C := Try.checked) false ⟨#[], #[.slice none 0 0, .int .i64 0, .int .u32 0], []⟩ 8 (by kernel_rfl) (by kernel_rfl) (by kernel_rfl) (by kernel_rfl)) ?_
  intro W base args ds gs before hval0 hW hcnd _
  have hval : ∀ (j : Nat) t v, Try.f4.params[j]? = some t → args[j]? = some v → Value.okWide Try.prog W .any base t v := hval0
  have hW' := hW
  obtain ⟨p, q, hA0, hV, rfl, hfz, hnd⟩ := hW
  have hA : DataW.TrodAll enc Try.prog W 0 (fun _ => true) true Try.f4.params.toList args.toList ds p := hA0
  rw [Try.params4] at hA hval
  obtain ⟨v0, vs0, d0, ds0, p0, q0, hargs, rfl, rfl, h0, r0⟩ := trodAll_cons hA
  obtain ⟨v1, vs1, d1, ds1, p1, q1, rfl, rfl, rfl, h1, r1⟩ := trodAll_cons r0
  obtain ⟨v2, vs2, d2, ds2, p2, q2, rfl, rfl, rfl, h2, r2⟩ := trodAll_cons r1
  obtain ⟨rfl, rfl, rfl⟩ := trodAll_nil r2
  obtain rfl : args = #[v0, v1, v2] := by cases args; simp_all
  obtain ⟨rfl, rfl⟩ := trodVars_none hV
  have k0 := h0
  have lt0 : ∀ x ∈ p0, x.block < W.heap.size := by obtain ⟨m, hm⟩ := k0; exact DataW.trod_lt m _ _ _ hm
  obtain ⟨A0, a0, c0, e0v, g0, m0, w0⟩ := open_bytes Try.underlying23 Try.underlying5 (by kernel_rfl) (hval 0 23 v0 rfl rfl) h0; subst e0v
  have k1 := h1
  have lt1 : ∀ x ∈ p1, x.block < W.heap.size := by obtain ⟨m, hm⟩ := k1; exact DataW.trod_lt m _ _ _ hm
  obtain ⟨a1, e1v, _, _, w1⟩ := open_int Try.underlying3 (hval 1 3 v1 rfl rfl) h1; subst e1v
  have k2 := h2
  have lt2 : ∀ x ∈ p2, x.block < W.heap.size := by obtain ⟨m, hm⟩ := k2; exact DataW.trod_lt m _ _ _ hm
  obtain ⟨a2, e2v, _, _, w2⟩ := open_int Try.underlying25 (hval 2 25 v2 rfl rfl) h2; subst e2v
  clear hA0 hval0
  refine (turned_walk W A0 a0 c0 g0 m0 w0 a1 w1 a2 w2).mono fun e W' ⟨he, bel⟩ => ?_
  subst he
  exact ⟨_, rfl, _, _, _, [], _, [], hW', trodAll_mk1 (shut_bool Try.underlying4 _), (trodAll_cons_mk (Below.trod laidOut (by kernel_rfl) (of_decide_eq_true (by kernel_rfl)) k0 bel lt0) (trodAll_cons_mk (Below.trod laidOut (by kernel_rfl) (of_decide_eq_true (by kernel_rfl)) k1 bel lt1) (trodAll_cons_mk (Below.trod laidOut (by kernel_rfl) (of_decide_eq_true (by kernel_rfl)) k2 bel lt2) trodAll_mk0))), rfl, bel.frame _, fun h => by cases h⟩
theorem over : Rows.sumsTurnedRow.holds Try.pinned (OpenSpec.ofChange Rows.sumsTurnedSpec) :=
  OpenClaim.holds_of_wide 4 Try.f4 rfl rfl rfl rfl rfl rfl rfl ⟨rfl, rfl, rfl, rfl, rfl⟩ rfl rfl rfl rfl rfl (by kernel_rfl) Try.func4 (by kernel_rfl)
    (of_decide_eq_true (by kernel_rfl)) (by unfold Func.isWrapper; first | (rw [if_pos (by decide +kernel)]; kernel_rfl) | (rw [if_neg (by decide +kernel)]; exact ⟨rfl, rfl⟩))
    (fun os started H enc _ => lifted os started H enc)
theorem proved : Rows.SumsTurnedSaid := over
end Go.Proofs.Ytgdgajieekkmdaa.sumsTurned
