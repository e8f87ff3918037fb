/- The law BitsParts of layer 1 returns true for every argument. No conditions. -/
import Derived.Test.YtbiejbecocdhdaaFrame
import Derived.Test.YtbiejbecocdhdaaKnown1
import Derived.Test.YtbiejbecocdhdaaBitsF
namespace Go.Proofs.Ytbiejbecocdhdaa
open Go.RowKit
theorem shl32U64 (x : BitVec 64) : IntKind.u64.wrap (U64 x * 4294967296) = U64 (x <<< 32) := by
  rw [show (4294967296 : Int) = 2 ^ 32 from by decide, shlU64]
attribute [local go_sem] shl32U64 beqU64 u32_u64 beqU8 wrapU64 shlU64 orU64
theorem tru7 {b : Bool} {w w' : World} (h : b = true) (hb : Below w.heap.size w w') : TruP (.bool true) w (.returned (.bool b)) w' := ⟨by rw [h], hb⟩
theorem put_ok (bs : List (BitVec 8)) (A : Option Addr) (c : Nat) (p n : Nat) (v : BitVec 64) (w : World) (B : Nat) (hr : Rd b8 w B A bs) (hB : B ≤ w.heap.size) (hl : bs.length ≤ 2147483648) (h : inB bs.length p n = true)
    (bs' : List (BitVec 8)) (e : bs' = bs.take p ++ (lowN v n ++ bs.drop (p + n))) :
    Calls Try.prog 13 #[.slice A bs.length c, .int .i64 p, .int .i64 n, .int .u64 (U64 v)] w (MkEP b8 5 bs' 0 w) := by
  have h0 := put_c bs A c p n v w B hr hB hl
  have e1 : putB bs p n v = bs' := by rw [e]; unfold putB; rw [if_pos h]; rfl
  have e2 : errB bs.length p n = 0 := if_pos h
  rw [e1, e2] at h0
  exact h0
theorem get_ok (bs : List (BitVec 8)) (A : Option Addr) (c : Nat) (p n : Nat) (w : World) (B : Nat) (hr : Rd b8 w B A bs) (hl : bs.length ≤ 2147483648) (h : inB bs.length p n = true) (v : BitVec 64) (e : leN (seg bs p n) = v) :
    Ans Try.prog 11 #[.slice A bs.length c, .int .i64 p, .int .i64 n] w (.tuple #[.int .u64 (U64 v), .int .i64 0]) := by
  have h0 := get_c bs A c p n w B hr hl
  have e1 : getB bs p n = v := by unfold getB; rw [if_pos h]; exact e
  have e2 : errB bs.length p n = 0 := if_pos h
  rw [e1, e2] at h0
  exact h0
theorem leN_app : ∀ x y : List (BitVec 8), leN (x ++ y) = leN x ||| (leN y <<< (8 * x.length))
  | [], y => by simp [leN]
  | a :: x, y => by
    simp only [List.cons_append, leN, leN_app x y, BitVec.shiftLeft_or_distrib, List.length_cons]
    rw [← BitVec.shiftLeft_add, show 8 * x.length + 8 = 8 * (x.length + 1) from by omega, BitVec.or_assoc, BitVec.or_assoc, BitVec.or_comm (BitVec.setWidth 64 a)]
theorem leN_low4 (a : BitVec 32) : leN (lowN (a.setWidth 64) 4) = a.setWidth 64 := by
  apply BitVec.eq_of_getLsbD_eq
  intro i hi
  have h : ∀ (v : BitVec 64) (n : Nat), (leN (lowN v n)).getLsbD i = (v.getLsbD i && decide (i < 8 * n)) := by
    intro v n
    induction n with
    | zero => simp [lowN, leN]
    | succ n ih =>
      rw [lowN_snoc, leN_snoc, BitVec.getLsbD_or, ih, lowN_len, BitVec.getLsbD_shiftLeft]
      by_cases a : i < 8 * n
      · have b : i < 8 * (n + 1) := by omega
        simp [a, b]
      · by_cases b : i < 8 * (n + 1)
        · simp [hi, a, b, show i - 8 * n < 8 from by omega, show 8 * n + (i - 8 * n) = i from by omega, show i - 8 * n < 64 from by omega]
        · simp [hi, a, b, show ¬ i - 8 * n < 8 from by omega]
  rw [h]
  simp
  intro _ ha
  have := BitVec.lt_of_getLsbD ha
  omega
theorem parts_one (a b : BitVec 32) (f : BitVec 8) (bs2 : List (BitVec 8)) (e : bs2 = lowN (a.setWidth 64) 4 ++ (lowN (b.setWidth 64) 4 ++ [f])) :
    bs2.length = 9 ∧ leN (seg bs2 (0 : Nat) (8 : Nat)) = (a.setWidth 64 ||| b.setWidth 64 <<< 32) ∧ leN (seg bs2 (4 : Nat) (4 : Nat)) = b.setWidth 64 ∧ ∀ h : 8 < bs2.length, bs2[8] = f := by
  subst e
  have h1 : (lowN (a.setWidth 64) 4).length = 4 := lowN_len _ _
  have h2 : (lowN (b.setWidth 64) 4).length = 4 := lowN_len _ _
  refine ⟨by simp [h1, h2], ?_, ?_, ?_⟩
  · have : seg (lowN (a.setWidth 64) 4 ++ (lowN (b.setWidth 64) 4 ++ [f])) (0 : Nat) (8 : Nat) = lowN (a.setWidth 64) 4 ++ lowN (b.setWidth 64) 4 := by
      simp [seg, List.take_append, h1, h2, List.take_of_length_le]
    rw [this, leN_app, leN_low4, leN_low4, h1]
  · have : seg (lowN (a.setWidth 64) 4 ++ (lowN (b.setWidth 64) 4 ++ [f])) (4 : Nat) (4 : Nat) = lowN (b.setWidth 64) 4 := by
      simp [seg, List.drop_append, List.take_append, h1, h2, List.take_of_length_le]
    rw [this, leN_low4]
  · intro h
    simp [List.getElem_append, h1, h2]
set_option maxHeartbeats 400000
theorem parts_walk (w : World) (a0 : Int) (w0 : (Lit.int .u32 a0).wf = true) (a1 : Int) (w1 : (Lit.int .u32 a1).wf = true) (a2 : Int) (w2 : (Lit.int .u8 a2).wf = true) :
    Calls Try.prog 8 #[.int .u32 a0, .int .u32 a1, .int .u8 a2] w (TruP (.bool true) w) := by
  obtain ⟨a, rfl⟩ : ∃ x, a0 = U32 x := ⟨_, wfu32 w0⟩
  obtain ⟨b, rfl⟩ : ∃ x, a1 = U32 x := ⟨_, wfu32 w1⟩
  obtain ⟨f, rfl⟩ : ∃ x, a2 = U8 x := ⟨_, wfu8 w2⟩
  clear w0 w1 w2
  obtain ⟨bs0, h0⟩ : ∃ l : List (BitVec 8), l = [f, f, f, f, f, f, f, f, f] := ⟨_, rfl⟩
  obtain ⟨bs1, h1⟩ : ∃ l, l = bs0.take 0 ++ (lowN (a.setWidth 64) 4 ++ bs0.drop (0 + 4)) := ⟨_, rfl⟩
  obtain ⟨bs2, h2⟩ : ∃ l, l = bs1.take 4 ++ (lowN (b.setWidth 64) 4 ++ bs1.drop (4 + 4)) := ⟨_, rfl⟩
  have l0 : bs0.length = 9 := by rw [h0]; rfl
  have l1 : bs1.length = 9 := by rw [h1]; simp [lowN_len, l0]
  have e2 : bs2 = lowN (a.setWidth 64) 4 ++ (lowN (b.setWidth 64) 4 ++ [f]) := by
    rw [h2, h1, h0]
    simp [List.take_append, List.drop_append, lowN_len, List.take_of_length_le]
  obtain ⟨l2, g1, g2, g3⟩ := parts_one a b f bs2 e2
  have G := Lib.hid (And.intro l0 (And.intro l1 (And.intro l2 (And.intro h1 (And.intro h2 (And.intro g1 (And.intro g2 (And.intro g3 h0))))))))
  clear h0 h1 h2 l0 l1 l2 g1 g2 g3 e2
  go_enter Try.func8, Try.ntmps8
  go_wp2_with fail
  refine (known_c _).mono ?_
  rintro e w1 ⟨rfl, hb1⟩
  have hbk := Bk.new w1 5 #[.int .u8 (U8 f), .int .u8 (U8 f), .int .u8 (U8 f), .int .u8 (U8 f), .int .u8 (U8 f), .int .u8 (U8 f), .int .u8 (U8 f), .int .u8 (U8 f), .int .u8 (U8 f)]
  go_wp2_with fail
  try simp only [wrapU64]
  have hp := put_ok bs0 (some ⟨w1.heap.size, 0, none⟩) 9 (0 : Nat) (4 : Nat) (a.setWidth 64) _ _ (hbk.rd (by rw [G.out.2.2.2.2.2.2.2.2]; rfl) (Nat.lt_succ_self _)) (by simp) (by rw [G.out.1]; decide) (by rw [G.out.1]; decide) bs1 G.out.2.2.2.1
  rw [G.out.1] at hp
  refine hp.mono ?_
  rintro e w2 ⟨A2, c2, rfl, hc2, ho2, hb2⟩
  go_wp2_with fail
  try simp only [wrapU64]
  refine (put_ok bs1 A2 c2 (4 : Nat) (4 : Nat) (b.setWidth 64) _ _ ho2.rd (Nat.le_refl _) (by rw [G.out.2.1]; decide) (by rw [G.out.2.1]; decide) bs2 G.out.2.2.2.2.1).mono ?_
  rintro e w3 ⟨A3, c3, rfl, hc3, ho3, hb3⟩
  have hr3 := ho3.rd
  have hB3 : Below w.heap.size w w3 := (hb1.alloc hb1.size _).trans ((hb2.mono (by have := hb1.size; simp; omega)).trans (hb3.mono (by have := hb1.size; have := hb2.size; simp at this; omega)))
  have hbk3 : Bk w3 w1.heap.size 5 _ := (hbk.below hb2 (by simp)).below hb3 (by have := hb2.size; simp at this; omega)
  clear hbk ho2 hb2 hb3 hb1
  go_wp2_with fail
  refine (get_ok bs2 A3 c3 (0 : Nat) (8 : Nat) _ _ hr3 (by rw [G.out.2.2.1]; decide) (by rw [G.out.2.2.1]; decide) _ G.out.2.2.2.2.2.1).go.mono ?_
  rintro e w4 ⟨rfl, m4, rfl⟩
  go_wp2_with fail
  refine (get_ok bs2 A3 c3 (4 : Nat) (4 : Nat) _ _ (hr3.drewN m4) (by rw [G.out.2.2.1]; decide) (by rw [G.out.2.2.1]; decide) _ G.out.2.2.2.2.2.2.1).go.mono ?_
  rintro e w4 ⟨rfl, m5, rfl⟩
  have hl2 : ((bs2.length : Int) == 9) = true := by rw [G.out.2.2.1]; rfl
  have hl3 : 8 < bs2.length := by rw [G.out.2.2.1]; decide
  obtain ⟨ad, rfl, _, hcell⟩ := hr3.at_ hl3
  have hc8 : w3.cell? ⟨ad.block, ad.off + 8, none⟩ = some (.int .u8 (U8 f)) := by rw [show (⟨ad.block, ad.off + 8, none⟩ : Addr) = ad.add 8 from by simp [Addr.add], hcell, G.out.2.2.2.2.2.2.2.1 hl3]; rfl
  have hc0 : w3.cell? ⟨w1.heap.size, 0, none⟩ = some (.int .u8 (U8 f)) := by rw [hbk3.cell]; rfl
  clear hcell hbk3 hr3
  go_wp2_with fail
  go_ret
  exact tru7 (by simp) (by first | exact hB3 | exact bdrewN hB3 _)
end Go.Proofs.Ytbiejbecocdhdaa
namespace Go.Proofs.Ytbiejbecocdhdaa.bitsParts
open Go.ChangeShapes Go.WideShapes Go.ChangeAt Go.RowKit
open Go.ChangeMaps (open_string shut_string)
set_option linter.unusedVariables false
set_option maxRecDepth 100000 in
theorem lifted (os : Os) (started : os.Started) (H : Type) (enc : TypeId × Value → H) :
    ReturnsInHanded {} Try.checked os 8 .any (Rows.bitsPartsSpec.pre6 enc Try.prog Try.f8 Rows.bitsPartsRow.domain false) (Rows.bitsPartsSpec.post enc Try.prog Try.f8 false true false false) := by
  refine returnsInHanded_of_change (C := Try.checked) own started (by kernel_rfl) Try.func8
    (ChangeSpec.witness6 (enc := enc) (C := Try.checked) false ⟨#[], #[.int .u32 0, .int .u32 0, .int .u8 0], []⟩ 8 (by kernel_rfl) (by kernel_rfl) (by kernel_rfl) (by kernel_rfl)) ?_
  intro W base args ds gs before hval0 hW hcnd _
  have hval : ∀ (j : Nat) t v, Try.f8.params[j]? = some t → args[j]? = some v → Value.okWide Try.prog W .any base t v := hval0
  have hW' := hW
  obtain ⟨p, q, hA0, hV, rfl, hfz, hnd⟩ := hW
  have hA : DataW.TrodAll enc Try.prog W 0 (fun _ => true) true Try.f8.params.toList args.toList ds p := hA0
  rw [Try.params8] at hA hval
  obtain ⟨v0, vs0, d0, ds0, p0, q0, hargs, rfl, rfl, h0, r0⟩ := trodAll_cons hA
  obtain ⟨v1, vs1, d1, ds1, p1, q1, rfl, rfl, rfl, h1, r1⟩ := trodAll_cons r0
  obtain ⟨v2, vs2, d2, ds2, p2, q2, rfl, rfl, rfl, h2, r2⟩ := trodAll_cons r1
  obtain ⟨rfl, rfl, rfl⟩ := trodAll_nil r2
  obtain rfl : args = #[v0, v1, v2] := by cases args; simp_all
  obtain ⟨rfl, rfl⟩ := trodVars_none hV
  have k0 := h0
  have lt0 : ∀ x ∈ p0, x.block < W.heap.size := by obtain ⟨m, hm⟩ := k0; exact DataW.trod_lt m _ _ _ hm
  obtain ⟨a0, e0v, _, _, w0⟩ := open_int Try.underlying45 (hval 0 45 v0 rfl rfl) h0; subst e0v
  have k1 := h1
  have lt1 : ∀ x ∈ p1, x.block < W.heap.size := by obtain ⟨m, hm⟩ := k1; exact DataW.trod_lt m _ _ _ hm
  obtain ⟨a1, e1v, _, _, w1⟩ := open_int Try.underlying45 (hval 1 45 v1 rfl rfl) h1; subst e1v
  have k2 := h2
  have lt2 : ∀ x ∈ p2, x.block < W.heap.size := by obtain ⟨m, hm⟩ := k2; exact DataW.trod_lt m _ _ _ hm
  obtain ⟨a2, e2v, _, _, w2⟩ := open_int Try.underlying5 (hval 2 5 v2 rfl rfl) h2; subst e2v
  clear hA0 hval0
  refine (parts_walk W a0 w0 a1 w1 a2 w2).mono fun e W' ⟨he, bel⟩ => ?_
  subst he
  exact ⟨_, rfl, _, _, _, [], _, [], hW', trodAll_mk1 (shut_bool Try.underlying4 _), (trodAll_cons_mk (Below.trod laidOut (by kernel_rfl) (of_decide_eq_true (by kernel_rfl)) k0 bel lt0) (trodAll_cons_mk (Below.trod laidOut (by kernel_rfl) (of_decide_eq_true (by kernel_rfl)) k1 bel lt1) (trodAll_cons_mk (Below.trod laidOut (by kernel_rfl) (of_decide_eq_true (by kernel_rfl)) k2 bel lt2) trodAll_mk0))), rfl, bel.frame _, fun h => by cases h⟩
theorem over : Rows.bitsPartsRow.holds Try.pinned (OpenSpec.ofChange Rows.bitsPartsSpec) :=
  OpenClaim.holds_of_wide 8 Try.f8 rfl rfl rfl rfl rfl rfl rfl ⟨rfl, rfl, rfl, rfl, rfl⟩ rfl rfl rfl rfl rfl (by kernel_rfl) Try.func8 (by kernel_rfl)
    (of_decide_eq_true (by kernel_rfl)) (by unfold Func.isWrapper; first | (rw [if_pos (by decide +kernel)]; kernel_rfl) | (rw [if_neg (by decide +kernel)]; exact ⟨rfl, rfl⟩))
    (fun os started H enc _ => lifted os started H enc)
theorem proved : Rows.BitsPartsSaid := over
end Go.Proofs.Ytbiejbecocdhdaa.bitsParts
