/- Texts joined: MmC MmD HeadC HeadD HeadE HeadF SpA SpB. -/
import Derived.Test.YtkkjnahjmomjgaaWc4
import Derived.Test.YtkkjnahjmomjgaaBel
import Derived.Lib.SmallJoins
import Derived.Test.YtkkjnahjmomjgaaHeadB
import Derived.Test.YtkkjnahjmomjgaaFrame
import Derived.Test.YtkkjnahjmomjgaaRegT
/- slices.Clone of words; mem.Words. Conditions: lengths. -/
namespace Go.Proofs.Ytkkjnahjmomjgaa
set_option linter.unusedVariables false
set_option linter.unusedSimpArgs false
open Go.RowKit
theorem u64v_one : ∀ x : BitVec 64, (u64v x).oneCell' = true := fun _ => rfl
set_option maxHeartbeats 400000
set_option maxRecDepth 100000
theorem clone64_c (ws : List (BitVec 64)) (A : Option Addr) (c : Nat) (w : World) (hr : Rd u64v w w.heap.size A ws) (hl : ws.length ≤ 1000000) :
    Calls Try.prog 69 #[.slice A ws.length c] w (MkP u64v 57 ws w) := by
  have hn := fun (a : Option Addr) (n c : Nat) (W : World) => Lib.run_eql_slice_nil (P := Try.prog) W 33 57 a n c 0 0 (by kernel_rfl)
  rcases A with _ | ad
  · have hb : ws = [] := by
      cases ws with
      | nil => rfl
      | cons x xs => obtain ⟨ad, e, _⟩ := hr 0 (by simp); cases e
    subst hb
    go_enter Try.func69, Try.ntmps69
    go_wp2
    go_ret
    exact ⟨none, 0, rfl, Nat.le_refl _, Ow.nil_ _ _ _ _, (by repeat (first | with_reducible assumption | with_reducible exact Below.refl _ _ | with_reducible apply bdN | with_reducible apply Below.drew | with_reducible refine Below.alloc ?_ (by simp) _ | with_reducible refine Below.setCell ?_ (by simp) _))⟩
  · go_enter Try.func69, Try.ntmps69
    go_wp2_with (at_builtin; refine wp_app one64 u64v_one rfl (.tmp 5) (.tmp 6) rfl w.heap.size _ [] rfl (ow_empty u64v 57 w w.heap.size (Nat.le_refl _)) (some ad) ws.length c ws rfl rfl w.heap.size (hr.alloc (Nat.le_refl _) _) (by simp; omega) (by decide) (by simp) ?_; intro v4 w4 ho4 hb4 hg4 hv4)
    rw [List.nil_append] at ho4
    obtain ⟨A4, c4, rfl, hc4⟩ := ho4.form
    go_ret
    exact ⟨A4, c4, rfl, hc4, ho4, (Gw.alloc w _).trans hb4⟩
theorem words_c (w : World) (B g : Nat) (v : Value) (ws : List (BitVec 64)) (h : MemAt w B g v ws) (hl : ws.length ≤ 1000000) : Calls Try.prog 30 #[.pointer (some ⟨g, 0, none⟩)] w (MkP u64v 57 ws w) := by
  obtain ⟨A, c, e, hc⟩ := h.row.form
  subst e
  have c0 := h.blk.cell 0
  have HC := Lib.hid (clone64_c ws A c w h.row.rd hl)
  obtain ⟨N, hN⟩ : ∃ N, N = ws.length := ⟨_, rfl⟩
  rw [← hN] at c0 HC
  clear h hc hN hl
  go_enter Try.func30, Try.ntmps30
  go_wp2_with fail
  refine Calls.mono HC.out ?_
  rintro e w1 ⟨A2, c2, rfl, h2, r2, b2⟩
  go_wp2_with fail
  go_ret
  exact ⟨A2, c2, rfl, h2, r2, b2⟩
theorem of_in (w : World) (A : Option Addr) (c : Nat) (ws : List (BitVec 64)) (hr : Rd u64v w w.heap.size A ws) (hl : ws.length ≤ 8192) :
    Calls Try.prog 74 #[.slice A ws.length c] w fun e w' => ∃ g v, e = .returned (.tuple #[.pointer (some ⟨g, 0, none⟩), .int .i64 0]) ∧ MemAt w' w.heap.size g v ws ∧ Below w.heap.size w w' := by
  have HC := Lib.hid (clone64_c ws A c w hr (by omega))
  have t2 : decide ((8192 : Int) < (ws.length : Int)) = false := by simp; omega
  obtain ⟨N, hN⟩ : ∃ N, N = ws.length := ⟨_, rfl⟩
  rw [← hN] at HC t2 ⊢
  clear hr hN hl
  go_enter Try.func74, Try.ntmps74
  go_wp2_with fail
  refine Calls.mono HC.out ?_
  rintro e w1 ⟨A2, c2, rfl, h2, r2, b2⟩
  have HR := Lib.hid r2
  have HB := Lib.hid b2
  clear h2 r2 b2
  go_wp2_with fail
  go_ret2
  have hsz := HB.out.size
  refine ⟨w1.heap.size, _, rfl, ⟨Bk.new w1 _ _, hsz, HR.out.alloc _, fun e => ?_⟩, HB.out.alloc hsz _⟩
  have := (HR.out.lt _ e).2
  omega
end Go.Proofs.Ytkkjnahjmomjgaa
/- mem: Set out of place, Of refused, Twin. Conditions: lengths. -/
namespace Go.Proofs.Ytkkjnahjmomjgaa
set_option linter.unusedVariables false
set_option linter.unusedSimpArgs false
open Go.RowKit
set_option maxHeartbeats 400000
end Go.Proofs.Ytkkjnahjmomjgaa
/- A header read out of a word: what is told is the same by either road. No conditions. -/
namespace Go.Proofs.Ytkkjnahjmomjgaa
set_option linter.unusedVariables false
set_option linter.unusedSimpArgs false
open Go.RowKit
theorem field_zero (x : BitVec 64) (at_ n : Int) (h : wB at_ n = true) (hz : ∀ i, i < n.toNat → x.getLsbD (at_.toNat + i) = false) : fieldB x at_ n = 0 := by
  apply BitVec.eq_of_getLsbD_eq
  intro i hi
  rw [field_bit _ _ _ h]
  by_cases a : i < n.toNat
  · rw [hz i a]; simp
  · simp [a]
theorem field_small (t : Int) (n : Int) (h : wB 0 n = true) (h1 : 0 ≤ t) (h2 : t < 2 ^ n.toNat) : fieldB (BitVec.ofInt 64 t) 0 n = BitVec.ofInt 64 t := by
  apply BitVec.eq_of_getLsbD_eq
  intro i hi
  rw [field_bit _ _ _ h]
  by_cases a : i < n.toNat
  · simp [a]
  · simp only [a, decide_false, Bool.and_false]
    rw [small_bit t n.toNat h1 h2 i (by omega)]
theorem U64_ofInt (t : Int) (h1 : 0 ≤ t) (h2 : t < 2 ^ 64) : U64 (BitVec.ofInt 64 t) = t := (U64_of h1 h2).symm
theorem unM (v : BitVec 64) : fieldB (withB (markB ||| 1#64) 32 16 v) 1 8 = 0 ∧ fieldB (withB (markB ||| 1#64) 32 16 v) 16 12 = 0 ∧ fieldB (withB (markB ||| 1#64) 32 16 v) 32 16 = fieldB v 0 16 ∧ (withB (markB ||| 1#64) 32 16 v).getLsbD 0 = true := by
  have hw : wB 32 16 = true := by decide
  refine ⟨?_, ?_, field_with _ _ _ _ hw, ?_⟩
  · apply field_zero _ _ _ (by decide)
    intro i hi
    have : i < 8 := hi
    rw [with_bit _ _ _ _ hw _ (by omega), if_neg (by omega), BitVec.getLsbD_or, mark_bit, one_bit]
    simp; omega
  · apply field_zero _ _ _ (by decide)
    intro i hi
    have : i < 12 := hi
    rw [with_bit _ _ _ _ hw _ (by omega), if_neg (by omega), BitVec.getLsbD_or, mark_bit, one_bit]
    simp; omega
  · rw [with_bit _ _ _ _ hw _ (by omega), if_neg (by omega), BitVec.getLsbD_or, one_bit]; simp
theorem unN (p b : BitVec 64) : fieldB (withB (withB markB 1 8 p) 16 12 b) 1 8 = fieldB p 0 8 ∧ fieldB (withB (withB markB 1 8 p) 16 12 b) 16 12 = fieldB b 0 12 ∧ fieldB (withB (withB markB 1 8 p) 16 12 b) 32 16 = 0 ∧ (withB (withB markB 1 8 p) 16 12 b).getLsbD 0 = false := by
  have hw : wB 1 8 = true := by decide
  have hw2 : wB 16 12 = true := by decide
  refine ⟨?_, field_with _ _ _ _ hw2, ?_, ?_⟩
  · apply BitVec.eq_of_getLsbD_eq
    intro i hi
    rw [field_bit _ _ _ hw, field_bit _ _ _ (by decide)]
    by_cases a : i < Int.toNat 8
    · have : i < 8 := a
      rw [with_bit _ _ _ _ hw2 _ (by omega), if_neg (by omega), with_bit _ _ _ _ hw _ (by omega), if_pos (by omega)]
      simp
    · have a' : ¬ i < 8 := a
      simp [a']
  · apply field_zero _ _ _ (by decide)
    intro i hi
    have : i < 16 := hi
    rw [with_bit _ _ _ _ hw2 _ (by omega), if_neg (by omega), with_bit _ _ _ _ hw _ (by omega), if_neg (by omega), mark_bit]
    simp; omega
  · rw [with_bit _ _ _ _ hw2 _ (by omega), if_neg (by omega), with_bit _ _ _ _ hw _ (by omega), if_neg (by omega), mark_bit]; simp
def fP (x : BitVec 64) : Int := U64 (fieldB x 1 8)
def fB (x : BitVec 64) : Int := U64 (fieldB x 16 12)
def fT (x : BitVec 64) : Int := U64 (fieldB x 32 16)
def fM (x : BitVec 64) : Bool := x.getLsbD 0
def okU (x : BitVec 64) : Bool := rightH (fP x) (fB x) (fM x) (fT x) && (packH (fP x) (fB x) (fM x) (fT x) == x)
theorem field_lt (x : BitVec 64) (at_ n : Int) (k : Nat) (hk : (n.toNat : Nat) = k) (hk2 : k < 64) (h : wB at_ n = true) : U64 (fieldB x at_ n) < 2 ^ k := by
  obtain ⟨_, _, h3, h4, _⟩ := wB_out h
  unfold fieldB U64
  rw [if_pos h, BitVec.toNat_and, lowB_nat n h3 h4, hk, Nat.and_two_pow_sub_one_eq_mod]
  have : (x >>> at_.toNat).toNat % 2 ^ k < 2 ^ k := Nat.mod_lt _ (Nat.two_pow_pos k)
  exact_mod_cast this
theorem fP_lt (x : BitVec 64) : 0 ≤ U64 (fieldB x 1 8) ∧ U64 (fieldB x 1 8) ≤ 255 := ⟨U64_lo _, by have := field_lt x 1 8 8 rfl (by decide) (by decide); omega⟩
theorem fB_lt (x : BitVec 64) : 0 ≤ U64 (fieldB x 16 12) ∧ U64 (fieldB x 16 12) ≤ 4095 := ⟨U64_lo _, by have := field_lt x 16 12 12 rfl (by decide) (by decide); omega⟩
theorem fT_lt (x : BitVec 64) : 0 ≤ U64 (fieldB x 32 16) ∧ U64 (fieldB x 32 16) ≤ 65535 := ⟨U64_lo _, by have := field_lt x 32 16 16 rfl (by decide) (by decide); omega⟩
theorem U64_zero : U64 0 = 0 := by decide +kernel
/-- What is packed is told again. -/
theorem un_pack (p b : Int) (m : Bool) (t : Int) (h : rightH p b m t = true) : fP (packH p b m t) = p ∧ fB (packH p b m t) = b ∧ fM (packH p b m t) = m ∧ fT (packH p b m t) = t := by
  have hp : packH p b m t = if m then withB (markB ||| 1#64) 32 16 (BitVec.ofInt 64 t) else withB (withB markB 1 8 (BitVec.ofInt 64 p)) 16 12 (BitVec.ofInt 64 b) := if_pos h
  unfold fP fB fM fT
  rcases rightH_out h with ⟨rfl, rfl, rfl, h1, h2⟩ | ⟨rfl, rfl, h1, h2, h3, h4⟩
  · rw [if_pos rfl] at hp
    rw [hp]
    obtain ⟨e1, e2, e3, e4⟩ := unM (BitVec.ofInt 64 t)
    rw [e1, e2, e3, e4, field_small t 16 (by decide) h1 (by show t < 65536; omega), U64_zero]
    exact ⟨rfl, rfl, rfl, U64_ofInt t h1 (by omega)⟩
  · rw [if_neg (by simp)] at hp
    rw [hp]
    obtain ⟨e1, e2, e3, e4⟩ := unN (BitVec.ofInt 64 p) (BitVec.ofInt 64 b)
    rw [e1, e2, e3, e4, field_small p 8 (by decide) h1 (by show p < 256; omega), field_small b 12 (by decide) h3 (by show b < 4096; omega), U64_zero]
    exact ⟨U64_ofInt p h1 (by omega), U64_ofInt b h3 (by omega), rfl, rfl⟩
theorem ok_pack (p b : Int) (m : Bool) (t : Int) (h : rightH p b m t = true) : okU (packH p b m t) = true := by
  obtain ⟨e1, e2, e3, e4⟩ := un_pack p b m t h
  unfold okU
  rw [e1, e2, e3, e4, h]
  simp
end Go.Proofs.Ytkkjnahjmomjgaa
/- What Unpack and its twin in loamref14 answer. No conditions. -/
namespace Go.Proofs.Ytkkjnahjmomjgaa
set_option linter.unusedVariables false
set_option linter.unusedSimpArgs false
open Go.RowKit
def unP (x : BitVec 64) : Int := if okU x then fP x else 0
def unB (x : BitVec 64) : Int := if okU x then fB x else 0
def unM' (x : BitVec 64) : Bool := if okU x then fM x else false
def unT (x : BitVec 64) : Int := if okU x then fT x else 0
def unE (x : BitVec 64) : Int := if okU x then 0 else 2
def unV (x : BitVec 64) : Value := .tuple #[.agg #[.int .i64 (unP x), .int .i64 (unB x), .bool (unM' x), .int .i64 (unT x)], .int .i64 (unE x)]
attribute [local go_sem] and1 beqU64
theorem bit0_ne (x : BitVec 64) : (U64 (x &&& 1#64) != 0) = x.getLsbD 0 := by
  have h : (U64 (x &&& 1#64) == 1) = x.getLsbD 0 := by
    have := bit_one x 0
    rwa [BitVec.ushiftRight_zero] at this
  have h2 : U64 (x &&& 1#64) = 0 ∨ U64 (x &&& 1#64) = 1 := by
    unfold U64
    rw [BitVec.toNat_and, show (1#64).toNat = 2 ^ 1 - 1 from rfl, Nat.and_two_pow_sub_one_eq_mod]
    omega
  rw [← h]
  rcases h2 with e | e <;> rw [e] <;> rfl
theorem okU_no {x : BitVec 64} (h : okU x = false) : rightH (fP x) (fB x) (fM x) (fT x) = false ∨ (rightH (fP x) (fB x) (fM x) (fT x) = true ∧ (packH (fP x) (fB x) (fM x) (fT x) == x) = false) := by
  unfold okU at h
  cases h2 : rightH (fP x) (fB x) (fM x) (fT x)
  · exact .inl rfl
  · rw [h2] at h; exact .inr ⟨rfl, by simpa using h⟩
theorem okU_yes {x : BitVec 64} (h : okU x = true) : rightH (fP x) (fB x) (fM x) (fT x) = true ∧ (packH (fP x) (fB x) (fM x) (fT x) == x) = true := by
  unfold okU at h
  rwa [Bool.and_eq_true] at h
theorem unV_yes {x : BitVec 64} (h : okU x = true) : unV x = .tuple #[.agg #[.int .i64 (fP x), .int .i64 (fB x), .bool (fM x), .int .i64 (fT x)], .int .i64 0] := by
  unfold unV unP unB unM' unT unE; simp [h]
theorem unV_no {x : BitVec 64} (h : okU x = false) : unV x = .tuple #[.agg #[.int .i64 0, .int .i64 0, .bool false, .int .i64 0], .int .i64 2] := by
  unfold unV unP unB unM' unT unE; simp [h]
theorem ret_cells {v v' : Value} {w w' : World} (h : v = v') (hb : Below w.heap.size w w') : RetP v' w (.returned v) w' := ⟨by rw [h], hb⟩
set_option maxHeartbeats 400000
theorem unpack_c (x : BitVec 64) (w : World) : Calls Try.prog 114 #[.int .u64 (U64 x)] w (RetP (unV x) w) := by
  obtain ⟨p1, p2⟩ := fP_lt x
  obtain ⟨b1, b2⟩ := fB_lt x
  obtain ⟨t1, t2⟩ := fT_lt x
  obtain ⟨m, hm⟩ : ∃ m, fM x = m := ⟨_, rfl⟩
  have hmm : (U64 (x &&& 1#64) != 0) = m := by rw [bit0_ne]; exact hm
  cases hok : okU x
  · have hv := unV_no hok
    rcases okU_no hok with hn | ⟨hn, hp⟩
    · have hn' : rightH (U64 (fieldB x 1 8)) (U64 (fieldB x 16 12)) m (U64 (fieldB x 32 16)) = false := by rw [← hm]; exact hn
      have he : (errH (U64 (fieldB x 1 8)) (U64 (fieldB x 16 12)) m (U64 (fieldB x 32 16)) != 0) = true := by
        unfold errH; rw [hn']; rfl
      have HV := Lib.hid hv
      have HM := Lib.hid hm
      clear hv hn hn' hok hm
      go_enter Try.func114, Try.ntmps114
      go_wp2_with (first | (go_at_call 73; refine (field_c _ _ _ _).go.mono ?_; rintro e w' ⟨rfl, mm, rfl⟩))
      refine (pack_c _ _ _ _ _).mono ?_
      rintro e w1 ⟨rfl, hb1⟩
      obtain ⟨hk0, hk1, hB⟩ := boxed2 hb1
      clear hb1
      obtain ⟨c0, c1, c2, c3⟩ := hk0.four
      obtain ⟨d0, d1, d2, d3⟩ := hk1.four
      have f0 := hk0.free 0
      have f1 := hk0.free 1
      have f2 := hk0.free 2
      have f3 := hk0.free 3
      clear hk0 hk1
      go_wp2_with fail
      refine bodyPost_ret (v := .tuple #[.agg #[.int .i64 0, .int .i64 0, .bool false, .int .i64 0], .int .i64 2]) (by simp [results, Try.results114, go_sem, c0, c1, c2, c3]) rfl ⟨by rw [HV.out]; try rfl, (by repeat (first | with_reducible assumption | with_reducible exact Below.refl _ _ | with_reducible apply bdN | with_reducible apply Below.drew | with_reducible refine Below.alloc ?_ (by simp) _ | with_reducible refine Below.setCell ?_ (by simp) _))⟩
    · rw [hm] at hn hp
      have he : (errH (U64 (fieldB x 1 8)) (U64 (fieldB x 16 12)) m (U64 (fieldB x 32 16)) != 0) = false := by
        have hn' : rightH (U64 (fieldB x 1 8)) (U64 (fieldB x 16 12)) m (U64 (fieldB x 32 16)) = true := hn
        unfold errH; rw [hn']; rfl
      have hp' : (U64 (packH (U64 (fieldB x 1 8)) (U64 (fieldB x 16 12)) m (U64 (fieldB x 32 16))) != U64 x) = true := by
        rw [bne, beqU64, show (packH (U64 (fieldB x 1 8)) (U64 (fieldB x 16 12)) m (U64 (fieldB x 32 16)) == x) = false from hp]; rfl
      have HV := Lib.hid hv
      have HM := Lib.hid hm
      clear hv hn hok hm hp
      go_enter Try.func114, Try.ntmps114
      go_wp2_with (first | (go_at_call 73; refine (field_c _ _ _ _).go.mono ?_; rintro e w' ⟨rfl, mm, rfl⟩))
      refine (pack_c _ _ _ _ _).mono ?_
      rintro e w1 ⟨rfl, hb1⟩
      obtain ⟨hk0, hk1, hB⟩ := boxed2 hb1
      clear hb1
      obtain ⟨c0, c1, c2, c3⟩ := hk0.four
      obtain ⟨d0, d1, d2, d3⟩ := hk1.four
      have f0 := hk0.free 0
      have f1 := hk0.free 1
      have f2 := hk0.free 2
      have f3 := hk0.free 3
      clear hk0 hk1
      go_wp2_with fail
      refine bodyPost_ret (v := .tuple #[.agg #[.int .i64 0, .int .i64 0, .bool false, .int .i64 0], .int .i64 2]) (by simp [results, Try.results114, go_sem, c0, c1, c2, c3]) rfl ⟨by rw [HV.out]; try rfl, (by repeat (first | with_reducible assumption | with_reducible exact Below.refl _ _ | with_reducible apply bdN | with_reducible apply Below.drew | with_reducible refine Below.alloc ?_ (by simp) _ | with_reducible refine Below.setCell ?_ (by simp) _))⟩
  · have hv := unV_yes hok
    · obtain ⟨hn, hp⟩ := okU_yes hok
      rw [hm] at hn hp hv
      have he : (errH (U64 (fieldB x 1 8)) (U64 (fieldB x 16 12)) m (U64 (fieldB x 32 16)) != 0) = false := by
        have hn' : rightH (U64 (fieldB x 1 8)) (U64 (fieldB x 16 12)) m (U64 (fieldB x 32 16)) = true := hn
        unfold errH; rw [hn']; rfl
      have hp' : (U64 (packH (U64 (fieldB x 1 8)) (U64 (fieldB x 16 12)) m (U64 (fieldB x 32 16))) != U64 x) = false := by
        rw [bne, beqU64, show (packH (U64 (fieldB x 1 8)) (U64 (fieldB x 16 12)) m (U64 (fieldB x 32 16)) == x) = true from hp]; rfl
      have hv2 : unV x = .tuple #[.agg #[.int .i64 (U64 (fieldB x 1 8)), .int .i64 (U64 (fieldB x 16 12)), .bool m, .int .i64 (U64 (fieldB x 32 16))], .int .i64 0] := hv
      have HV := Lib.hid hv2
      clear hv2
      have HM := Lib.hid hm
      clear hv hn hok hm hp
      go_enter Try.func114, Try.ntmps114
      go_wp2_with (first | (go_at_call 73; refine (field_c _ _ _ _).go.mono ?_; rintro e w' ⟨rfl, mm, rfl⟩))
      refine (pack_c _ _ _ _ _).mono ?_
      rintro e w1 ⟨rfl, hb1⟩
      obtain ⟨hk0, hk1, hB⟩ := boxed2 hb1
      clear hb1
      obtain ⟨c0, c1, c2, c3⟩ := hk0.four
      obtain ⟨d0, d1, d2, d3⟩ := hk1.four
      have f0 := hk0.free 0
      have f1 := hk0.free 1
      have f2 := hk0.free 2
      have f3 := hk0.free 3
      clear hk0 hk1
      go_wp2_with fail
      refine bodyPost_ret (v := .tuple #[.agg #[.int .i64 (U64 (fieldB x 1 8)), .int .i64 (U64 (fieldB x 16 12)), .bool m, .int .i64 (U64 (fieldB x 32 16))], .int .i64 0]) (by simp [results, Try.results114, go_sem, c0, c1, c2, c3]) rfl (ret_cells HV.out.symm (by repeat (first | with_reducible assumption | with_reducible exact Below.refl _ _ | with_reducible apply bdN | with_reducible apply Below.drew | with_reducible refine Below.alloc ?_ (by simp) _ | with_reducible refine Below.setCell ?_ (by simp) _)))
end Go.Proofs.Ytkkjnahjmomjgaa
/- What loamref14.Unpack answers: what Unpack answers. No conditions. -/
namespace Go.Proofs.Ytkkjnahjmomjgaa
set_option linter.unusedVariables false
set_option linter.unusedSimpArgs false
open Go.RowKit
attribute [local go_sem] and1 beqU64
set_option maxHeartbeats 400000
end Go.Proofs.Ytkkjnahjmomjgaa
/- What loamlaw14.known and loamlaw14.Of answer, and how a header that comes in is opened. No conditions. -/
namespace Go.Proofs.Ytkkjnahjmomjgaa
set_option linter.unusedVariables false
set_option linter.unusedSimpArgs false
open Go.RowKit Go.Joins Go.WideShapes
set_option maxHeartbeats 800000
set_option maxRecDepth 100000
end Go.Proofs.Ytkkjnahjmomjgaa
/- space: bare, New, Used, Free, zero. Conditions: lengths. -/
namespace Go.Proofs.Ytkkjnahjmomjgaa
set_option linter.unusedVariables false
set_option linter.unusedSimpArgs false
open Go.RowKit
/-- Block s holds a space of the words ws, from b to t to e. -/
structure SpAt (W : World) (B s g : Nat) (v : Value) (ws : List (BitVec 64)) (b t e : Nat) : Prop where
  mem : MemAt W B g v ws
  blk : Bk W s 147 #[.pointer (some ⟨g, 0, none⟩), .int .i64 b, .int .i64 t, .int .i64 e]
  sg : s ≠ g
  sv : v.ownBlock ≠ some s
  hs : B ≤ s
  bt : b ≤ t
  te : t ≤ e
  el : e ≤ ws.length
section
variable {W W' : World} {B s g : Nat} {v : Value} {ws ws' : List (BitVec 64)} {b t e : Nat}
theorem SpAt.below (p : SpAt W B s g v ws b t e) (hb : Below W.heap.size W W') : SpAt W' B s g v ws b t e := ⟨p.mem.below hb, p.blk.below hb p.blk.lt, p.sg, p.sv, p.hs, p.bt, p.te, p.el⟩
theorem SpAt.memTo (p : SpAt W B s g v ws b t e) (m : MemAt W' B g v ws') (hg : W.grownBy W' v.ownBlock) (hl : ws'.length = ws.length) : SpAt W' B s g v ws' b t e :=
  ⟨m, (hg.block s p.blk.lt (fun e => p.sv e.symm)).trans p.blk, p.sg, p.sv, p.hs, p.bt, p.te, by rw [hl]; exact p.el⟩
theorem SpAt.four (p : SpAt W B s g v ws b t e) : W.cell? ⟨s, 0, none⟩ = some (.pointer (some ⟨g, 0, none⟩)) ∧ W.cell? ⟨s, 1, none⟩ = some (.int .i64 b) ∧ W.cell? ⟨s, 2, none⟩ = some (.int .i64 t) ∧ W.cell? ⟨s, 3, none⟩ = some (.int .i64 e) :=
  ⟨p.blk.cell 0, p.blk.cell 1, p.blk.cell 2, p.blk.cell 3⟩
end
/-- Of the old blocks only s and the row may have changed. -/
structure Two (w w' : World) (s : Nat) (row : Option Nat) : Prop where
  os : w'.os = w.os
  tape : w'.tape = w.tape
  output : w'.output = w.output
  size : w.heap.size ≤ w'.heap.size
  block : ∀ k, k < w.heap.size → k ≠ s → some k ≠ row → w'.heap[k]? = w.heap[k]?
theorem Two.trans {a b c : World} {s : Nat} {row : Option Nat} (h : Two a b s row) (k : Two b c s row) : Two a c s row :=
  ⟨k.os.trans h.os, k.tape.trans h.tape, k.output.trans h.output, Nat.le_trans h.size k.size, fun i hi h1 h2 => (k.block i (Nat.lt_of_lt_of_le hi h.size) h1 h2).trans (h.block i hi h1 h2)⟩
theorem Two.below {a b : World} {s : Nat} {row : Option Nat} (h : Below a.heap.size a b) : Two a b s row := ⟨h.os, h.tape, h.output, h.size, fun k hk _ _ => h.block k hk⟩
theorem Two.grown {a b : World} {s : Nat} {row : Option Nat} (h : a.grownBy b row) : Two a b s row := ⟨h.os, h.tape, h.output, h.size, fun k hk _ h2 => h.block k hk h2⟩
theorem Two.setc (a : World) (s i : Nat) (u : Value) (row : Option Nat) : Two a (a.setCell ⟨s, i, none⟩ u) s row := ⟨rfl, rfl, rfl, by simp [World.setCell], fun k _ hne _ => Below.heap_setCell _ _ _ _ hne⟩
set_option maxHeartbeats 400000
set_option maxRecDepth 100000
theorem bare_in (w : World) (B g : Nat) (v : Value) (ws : List (BitVec 64)) (b t e : Nat) (h : MemAt w B g v ws) (hbt : b ≤ t) (hte : t ≤ e) (hel : e ≤ ws.length) (hl : ws.length ≤ 100000) :
    Calls Try.prog 59 #[.pointer (some ⟨g, 0, none⟩), .int .i64 b, .int .i64 t, .int .i64 e] w fun r w' => ∃ s, r = .returned (.tuple #[.pointer (some ⟨s, 0, none⟩), .int .i64 0]) ∧ SpAt w' B s g v ws b t e ∧ Below w.heap.size w w' := by
  have HL := Lib.hid (len_c w B g v ws h)
  have HM := Lib.hid h
  obtain ⟨N, hN⟩ : ∃ N, N = ws.length := ⟨_, rfl⟩
  rw [← hN] at HL
  have u1 : ¬ (b : Int) < 0 := by omega
  have u2 : ¬ t < b := by omega
  have u3 : ¬ e < t := by omega
  have u4 : ¬ N < e := by omega
  have HX := Lib.hid (And.intro hbt (And.intro hte hel))
  clear h hbt hte hel hl hN
  go_enter Try.func59, Try.ntmps59
  go_wp2_with fail
  refine Calls.mono HL.out ?_
  rintro r w1 ⟨rfl, rfl⟩
  go_wp2_with fail
  go_ret2
  have hm := HM.out
  have hb := Gw.alloc w1 (.cells #[.pointer (some ⟨g, 0, none⟩), .int .i64 b, .int .i64 t, .int .i64 e] 147)
  refine ⟨w1.heap.size, rfl, ⟨hm.below hb, Bk.new w1 _ _, ?_, fun e => ?_, hm.le, HX.out.1, HX.out.2.1, HX.out.2.2⟩, hb⟩
  · have := hm.blk.lt; omega
  · have := (hm.row.lt _ e).2; omega
theorem bare_out (w : World) (B g : Nat) (v : Value) (ws : List (BitVec 64)) (b t e : Int) (h : MemAt w B g v ws) (ho : b < 0 ∨ (¬ b < 0 ∧ t < b) ∨ (¬ b < 0 ∧ ¬ t < b ∧ e < t) ∨ (¬ b < 0 ∧ ¬ t < b ∧ ¬ e < t ∧ (ws.length : Int) < e)) :
    Calls Try.prog 59 #[.pointer (some ⟨g, 0, none⟩), .int .i64 b, .int .i64 t, .int .i64 e] w fun r w' => r = .returned (.tuple #[.pointer none, .int .i64 1]) ∧ w' = w := by
  have HL := Lib.hid (len_c w B g v ws h)
  obtain ⟨N, hN⟩ : ∃ N, N = ws.length := ⟨_, rfl⟩
  rw [← hN] at HL ho
  clear h hN
  rcases ho with h1 | ⟨h1, h2⟩ | ⟨h1, h2, h3⟩ | ⟨h1, h2, h3, h4⟩
  · go_enter Try.func59, Try.ntmps59
    go_wp2_with fail
    go_ret2
    exact ⟨rfl, rfl⟩
  · go_enter Try.func59, Try.ntmps59
    go_wp2_with fail
    go_ret2
    exact ⟨rfl, rfl⟩
  · go_enter Try.func59, Try.ntmps59
    go_wp2_with fail
    go_ret2
    exact ⟨rfl, rfl⟩
  · go_enter Try.func59, Try.ntmps59
    go_wp2_with fail
    refine Calls.mono HL.out ?_
    rintro r w1 ⟨rfl, rfl⟩
    go_wp2_with fail
    go_ret2
    exact ⟨rfl, rfl⟩
theorem snew_in (w : World) (B g : Nat) (v : Value) (ws : List (BitVec 64)) (b e : Nat) (h : MemAt w B g v ws) (hbe : b ≤ e) (hel : e ≤ ws.length) (hl : ws.length ≤ 100000) :
    Calls Try.prog 24 #[.pointer (some ⟨g, 0, none⟩), .int .i64 b, .int .i64 e] w fun r w' => ∃ s, r = .returned (.tuple #[.pointer (some ⟨s, 0, none⟩), .int .i64 0]) ∧ SpAt w' B s g v ws b b e ∧ Below w.heap.size w w' := by
  have HB := Lib.hid (bare_in w B g v ws b b e h (Nat.le_refl _) hbe hel hl)
  clear h hbe hel hl
  go_enter Try.func24, Try.ntmps24
  go_wp2_with fail
  refine Calls.mono HB.out ?_
  rintro r w1 ⟨s, rfl, h1, b1⟩
  go_wp2_with fail
  go_ret2
  exact ⟨s, rfl, h1, b1⟩
theorem free_r (Q : Exit → Act → World → Prop) (a0 : Act) (w : World) (s x y n : Nat) (hs : s < w.heap.size) (c1 : w.cell? ⟨s, 3, none⟩ = some (.int .i64 x)) (c2 : w.cell? ⟨s, 2, none⟩ = some (.int .i64 y)) (d1 : (x : Int) - (y : Int) = (n : Int)) (d2 : (n : Int) ≤ 100000) (d3 : (0 : Int) ≤ (n : Int)) (hsz : a0.tmps.size = 12) (sl0 : a0.tmps.getD 0 undef = .pointer (some ⟨s, 0, none⟩))
    (fin : ∀ (vals : Nat → Value) (w1 : World), Below w.heap.size w w1 → (IsV (.int .i64 n)) (vals 9) w1 → Q .normal (putD vals [3, 4, 5, 6, 7, 8, 9, 10, 11, 2] 0 a0) w1) :
    (Code.region 1 (regIn Try.f90 1) true).wp Try.prog Q a0 w := by
  refine region_by (G := fun w w1 => Below w.heap.size w w1) [IsV (.pointer (some ⟨s, 0, none⟩)),
    IsV (.pointer (some ⟨s, 0, none⟩)),
    IsV (.pointer (some ⟨s, 3, none⟩)),
    IsV (.int .i64 x),
    IsV (.pointer (some ⟨s, 0, none⟩)),
    IsV (.pointer (some ⟨s, 0, none⟩)),
    IsV (.pointer (some ⟨s, 2, none⟩)),
    IsV (.int .i64 y),
    IsV (.int .i64 n),
    IsV (.int .i64 n)]
    [3, 4, 5, 6, 7, 8, 9, 10, 11, 2] (by kernel_rfl) (Gw.drew _) Gw.trans (by rw [hsz]; kernel_rfl) (by kernel_rfl) ?_ ?_ ?_
  · intro f hf
    simp only [List.mem_cons, List.not_mem_nil, or_false] at hf
    rcases hf with rfl | rfl | rfl | rfl | rfl | rfl | rfl | rfl | rfl | rfl <;> intro v a b h g <;> first | exact IsV.mono h
  · refine ⟨?_, ?_, ?_, ?_, ?_, ?_, ?_, ?_, ?_, ?_, trivial⟩
    · exact owes_mv 0 (by kernel_rfl) (by kernel_rfl) (by kernel_rfl) sl0 (fun _ => rfl)
    · refine owes_v (Go.Op.nilCheck (Go.Operand.tmp 3)) 0 [0] (by kernel_rfl) (by kernel_rfl) (by kernel_rfl) rfl fun vals w1 ρ hG hF hρ hcst hfun => ?_
      have e3 : ρ (.tmp 3) = .pointer (some ⟨s, 0, none⟩) := ((hρ 3).trans (slotJ [0] (by rw [hsz]; decide) (by kernel_rfl))).trans (hF 0 (by decide))
      clear hρ hF hcst hfun sl0 fin
      exact opv_val (by go_simp <;> rfl) ⟨gw_self _, rfl⟩
    · refine owes_v (Go.Op.fieldAddr 147 (Go.Operand.tmp 4) 3) 0 [1] (by kernel_rfl) (by kernel_rfl) (by kernel_rfl) rfl fun vals w1 ρ hG hF hρ hcst hfun => ?_
      have e4 : ρ (.tmp 4) = .pointer (some ⟨s, 0, none⟩) := ((hρ 4).trans (slotJ [1] (by rw [hsz]; decide) (by kernel_rfl))).trans (hF 1 (by decide))
      clear hρ hF hcst hfun sl0 fin
      exact opv_val (by go_simp <;> rfl) ⟨gw_self _, rfl⟩
    · refine owes_v (Go.Op.load 3 (Go.Operand.tmp 5)) 3 [2] (by kernel_rfl) (by kernel_rfl) (by kernel_rfl) rfl fun vals w1 ρ hG hF hρ hcst hfun => ?_
      have e5 : ρ (.tmp 5) = .pointer (some ⟨s, 3, none⟩) := ((hρ 5).trans (slotJ [2] (by rw [hsz]; decide) (by kernel_rfl))).trans (hF 2 (by decide))
      have k := (hG.cell (p := ⟨s, 3, none⟩) hs).trans c1
      clear hρ hF hcst hfun sl0 fin
      exact opv_val (by go_simp <;> rfl) ⟨gw_self _, rfl⟩
    · exact owes_mv 0 (by kernel_rfl) (by kernel_rfl) (by kernel_rfl) sl0 (fun _ => rfl)
    · refine owes_v (Go.Op.nilCheck (Go.Operand.tmp 7)) 0 [4] (by kernel_rfl) (by kernel_rfl) (by kernel_rfl) rfl fun vals w1 ρ hG hF hρ hcst hfun => ?_
      have e7 : ρ (.tmp 7) = .pointer (some ⟨s, 0, none⟩) := ((hρ 7).trans (slotJ [4] (by rw [hsz]; decide) (by kernel_rfl))).trans (hF 4 (by decide))
      clear hρ hF hcst hfun sl0 fin
      exact opv_val (by go_simp <;> rfl) ⟨gw_self _, rfl⟩
    · refine owes_v (Go.Op.fieldAddr 147 (Go.Operand.tmp 8) 2) 0 [5] (by kernel_rfl) (by kernel_rfl) (by kernel_rfl) rfl fun vals w1 ρ hG hF hρ hcst hfun => ?_
      have e8 : ρ (.tmp 8) = .pointer (some ⟨s, 0, none⟩) := ((hρ 8).trans (slotJ [5] (by rw [hsz]; decide) (by kernel_rfl))).trans (hF 5 (by decide))
      clear hρ hF hcst hfun sl0 fin
      exact opv_val (by go_simp <;> rfl) ⟨gw_self _, rfl⟩
    · refine owes_v (Go.Op.load 3 (Go.Operand.tmp 9)) 3 [6] (by kernel_rfl) (by kernel_rfl) (by kernel_rfl) rfl fun vals w1 ρ hG hF hρ hcst hfun => ?_
      have e9 : ρ (.tmp 9) = .pointer (some ⟨s, 2, none⟩) := ((hρ 9).trans (slotJ [6] (by rw [hsz]; decide) (by kernel_rfl))).trans (hF 6 (by decide))
      have k := (hG.cell (p := ⟨s, 2, none⟩) hs).trans c2
      clear hρ hF hcst hfun sl0 fin
      exact opv_val (by go_simp <;> rfl) ⟨gw_self _, rfl⟩
    · refine owes_v (Go.Op.binOp Go.BinOp.sub 3 (Go.Operand.tmp 6) (Go.Operand.tmp 10) 3) 3 [3, 7] (by kernel_rfl) (by kernel_rfl) (by kernel_rfl) rfl fun vals w1 ρ hG hF hρ hcst hfun => ?_
      have e6 : ρ (.tmp 6) = .int .i64 x := ((hρ 6).trans (slotJ [3, 7] (by rw [hsz]; decide) (by kernel_rfl))).trans (hF 3 (by decide))
      have e10 : ρ (.tmp 10) = .int .i64 y := ((hρ 10).trans (slotJ [3, 7] (by rw [hsz]; decide) (by kernel_rfl))).trans (hF 7 (by decide))
      have kw0 : IntKind.i64.wrap ((n : Int)) = (n : Int) := wrapIn (by omega) (by omega)
      clear hρ hF hcst hfun sl0 fin
      exact opv_val (by go_simp <;> rfl) ⟨gw_self _, rfl⟩
    · exact owes_mvj 8 11 (by kernel_rfl) (by kernel_rfl) (by kernel_rfl) (by kernel_rfl) (by rw [hsz]; decide) (fun v w h => h)
  · intro vals w1 hG hF
    exact fin vals w1 hG (hF 9 (by decide +kernel))
theorem free_c (w : World) (B s g : Nat) (v : Value) (ws : List (BitVec 64)) (b t e : Nat) (p : SpAt w B s g v ws b t e) (hl : ws.length ≤ 100000) :
    Calls Try.prog 90 #[.pointer (some ⟨s, 0, none⟩)] w fun r w' => r = .returned (.int .i64 ((e - t : Nat) : Int)) ∧ Below w.heap.size w w' := by
  obtain ⟨c0, c1, c2, c3⟩ := p.four
  have HLT := p.blk.lt
  obtain ⟨n, hn⟩ : ∃ n, n = e - t := ⟨_, rfl⟩
  have d1 : (e : Int) - (t : Int) = (n : Int) := by have := p.te; omega
  have d2 : (n : Int) ≤ 100000 := by have := p.el; omega
  have d3 : (0 : Int) ≤ (n : Int) := by omega
  rw [← hn]
  clear p hn hl
  go_enter Try.func90, Try.ntmps90
  go_wp2_with fail
  refine free_r _ _ _ s e t n HLT c3 c2 d1 d2 d3 rfl rfl ?_
  intro vals w1 hG h1
  unfold IsV at h1
  simp only [putD, Act.put, List.setIfInBounds_toArray, List.set_cons_zero, List.set_cons_succ, h1]
  clear h1
  go_wp2_with fail
  go_ret
  exact ⟨rfl, hG⟩
/-- k words from a on made 0. -/
def zeroW (ws : List (BitVec 64)) (a : Nat) : Nat → List (BitVec 64)
  | 0 => ws
  | k + 1 => (zeroW ws a k).set (a + k) 0#64
theorem zeroW_len (ws : List (BitVec 64)) (a k : Nat) : (zeroW ws a k).length = ws.length := by
  induction k with
  | zero => rfl
  | succ k ih => show (List.set _ _ _).length = _; rw [List.length_set, ih]
theorem zeroW_get (ws : List (BitVec 64)) (a i : Nat) : ∀ k, a + k ≤ ws.length → (zeroW ws a k)[i]? = if a ≤ i ∧ i < a + k then some 0#64 else ws[i]?
  | 0, _ => by
    rw [if_neg (by omega)]; rfl
  | k + 1, h => by
    show ((zeroW ws a k).set (a + k) 0#64)[i]? = _
    rw [List.getElem?_set, zeroW_get ws a i k (by omega)]
    by_cases e : a + k = i
    · subst e
      rw [if_pos rfl, if_pos (by rw [zeroW_len]; omega), if_pos (by omega)]
    · rw [if_neg e]
      by_cases c : a ≤ i ∧ i < a + k
      · rw [if_pos c, if_pos (by omega)]
      · rw [if_neg c, if_neg (by omega)]
theorem zero_c (w : World) (B s g : Nat) (v : Value) (ws : List (BitVec 64)) (b t e a z : Nat) (p : SpAt w B s g v ws b t e) (ha : a ≤ z) (hz : z ≤ ws.length) (hl : ws.length ≤ 100000) :
    Calls Try.prog 91 #[.pointer (some ⟨s, 0, none⟩), .int .i64 a, .int .i64 z] w fun r w' => r = .returned (.tuple #[]) ∧ SpAt w' B s g v (zeroW ws a (z - a)) b t e ∧ w.grownBy w' v.ownBlock := by
  have HP := Lib.hid p
  obtain ⟨N, hN⟩ : ∃ N, N = ws.length := ⟨_, rfl⟩
  have HLen := Lib.hid (fun W ws' (h : MemAt W B g v ws') (hl' : ws'.length = N) => show Calls Try.prog 64 #[.pointer (some ⟨g, 0, none⟩)] W fun e w' => e = .returned (.int .i64 N) ∧ w' = W from by
    have k := len_c W B g v ws' h
    rw [hl'] at k
    exact k)
  have HSet := Lib.hid (fun W ws' (h : MemAt W B g v ws') (hl' : ws'.length = N) (i : Nat) (hi : i < N) => show Calls Try.prog 27 #[.pointer (some ⟨g, 0, none⟩), .int .i64 i, .int .u64 0] W fun e w' => e = .returned (.int .i64 0) ∧ MemAt w' B g v (ws'.set i 0#64) ∧ W.grownBy w' v.ownBlock from by
    have k := set_in W B g v ws' i 0#64 (by omega) (by omega) h
    rw [show U64 0#64 = 0 from by decide +kernel] at k
    exact k)
  have HN := Lib.hid hN
  have q1 : (z : Int) ≤ (N : Int) := by omega
  have q2 : (N : Int) ≤ 100000 := by omega
  have q3 : (0 : Int) ≤ (a : Int) := by omega
  have q4 : (a : Int) ≤ (z : Int) := by omega
  clear p hN ha hz hl
  go_enter Try.func91, Try.ntmps91
  go_wp2_with fail
  go_loopw [6] (fun i W => ∃ k : Nat, a + k ≤ z ∧ i = .int .i64 ((a + k : Nat) : Int) ∧ SpAt W B s g v (zeroW ws a k) b t e ∧ w.grownBy W v.ownBlock) (fun i _ => z - (Go.RowKit.intOf i).toNat)
  case atStart => exact ⟨0, by omega, by first | rfl | (simp; done) | go_num, HP.out, grown_refl _ _⟩
  case round =>
    obtain ⟨k, hk, rfl, hp, hg⟩ := hrel
    obtain ⟨c0, c1, c2, c3⟩ := hp.four
    have hzl : (zeroW ws a k).length = N := by rw [zeroW_len]; exact HN.out.symm
    have KL := Lib.hid (HLen.out wr _ hp.mem hzl)
    obtain ⟨j, hj⟩ : ∃ j, j = a + k := ⟨_, rfl⟩
    rw [← hj] at hk ⊢
    have HPP := Lib.hid (And.intro hp hg)
    have p1 : (0 : Int) ≤ (j : Int) := by omega
    by_cases hlt : j < z
    · have KS := Lib.hid (HSet.out wr _ hp.mem hzl j (by omega))
      have HZL := Lib.hid hzl
      have HJ := Lib.hid hj
      clear hp hg hzl hj
      go_wp2_with fail
      refine Calls.mono KL.out ?_
      rintro r w3 ⟨rfl, rfl⟩
      go_wp2_with fail
      refine Calls.mono KS.out ?_
      rintro r w4 ⟨rfl, hm4, hg4⟩
      have h5 : SpAt w4 B s g v (zeroW ws a (k + 1)) b t e ∧ w.grownBy w4 v.ownBlock := by
        have e : zeroW ws a (k + 1) = (zeroW ws a k).set j 0#64 := by rw [HJ.out]; rfl
        rw [e]
        exact ⟨HPP.out.1.memTo hm4 hg4 (by rw [List.length_set]), HPP.out.2.trans hg4⟩
      have H5 := Lib.hid h5
      clear h5 hm4 hg4 KL KS
      go_wp2_with fail
      go_roundw
      case rel => exact ⟨k + 1, by have := HJ.out; omega, by have := HJ.out; go_num, H5.out.1, H5.out.2⟩
      case measure => (first | (simp [Go.RowKit.intOf]; done) | (simp [Go.RowKit.intOf]; omega))
    · have hjz : z - a = k := by omega
      have HJZ := Lib.hid hjz
      clear hp hg hzl hj hjz
      go_wp2_with fail
      refine Calls.mono KL.out ?_
      rintro r w3 ⟨rfl, rfl⟩
      go_wp2_with fail
      go_end0
      rw [HJZ.out]
      exact ⟨rfl, HPP.out.1, HPP.out.2⟩
end Go.Proofs.Ytkkjnahjmomjgaa
/- space: Head. Conditions: lengths. -/
namespace Go.Proofs.Ytkkjnahjmomjgaa
set_option linter.unusedVariables false
set_option linter.unusedSimpArgs false
open Go.RowKit
set_option maxHeartbeats 400000
set_option maxRecDepth 100000
theorem sphead_in (w : World) (B s g : Nat) (v : Value) (ws : List (BitVec 64)) (b t e : Nat) (p : SpAt w B s g v ws b t e) (i : Nat) (hi1 : b ≤ i) (hi2 : i < t) (hl : ws.length ≤ 100000) (hiw : i < ws.length) :
    Calls Try.prog 108 #[.pointer (some ⟨s, 0, none⟩), .int .i64 i] w (RetP (unV ws[i]) w) := by
  have hb := Gw.alloc w (.cells #[.int .i64 0, .int .i64 0, .bool false, .int .i64 0] 112)
  have hp := p.below hb
  obtain ⟨c0, c1, c2, c3⟩ := hp.four
  have HG := Lib.hid (get_in _ B g v ws i hiw hl hp.mem)
  obtain ⟨x, hx⟩ : ∃ x, x = ws[i] := ⟨_, rfl⟩
  rw [← hx] at HG ⊢
  have HU := Lib.hid (unpack_c x (w.alloc (.cells #[.int .i64 0, .int .i64 0, .bool false, .int .i64 0] 112)))
  have u1 : ¬ i < b := by omega
  have u2 : ¬ t ≤ i := by omega
  have hk := Bk.new w 112 #[.int .i64 0, .int .i64 0, .bool false, .int .i64 0]
  have HK := Lib.hid hk
  have HB := Lib.hid hb
  clear p hp hb hk hi1 hi2 hiw hx hl
  go_enter Try.func108, Try.ntmps108
  go_wp2_with fail
  refine Calls.mono HG.out ?_
  rintro r w1 ⟨rfl, rfl⟩
  go_wp2_with fail
  refine Calls.mono HU.out ?_
  rintro r w2 ⟨rfl, b2⟩
  have hk2 := HK.out.below b2 HK.out.lt
  have f0 := hk2.free 0
  have f1 := hk2.free 1
  have f2 := hk2.free 2
  have f3 := hk2.free 3
  obtain ⟨d0, d1, d2, d3⟩ := hk2.four
  have hkl := hk2.lt
  have HB2 := Lib.hid (HB.out.trans (b2.mono HB.out.size))
  unfold unV
  clear HG HU b2 hk2 HK c0 c1 c2 c3
  go_wp2_with fail
  refine bodyPost_ret (v := .tuple #[.agg #[.int .i64 (unP x), .int .i64 (unB x), .bool (unM' x), .int .i64 (unT x)], .int .i64 (unE x)]) (by simp [results, Try.results108, go_sem, d0, d1, d2, d3]) rfl ⟨rfl, ?_⟩
  exact (((HB2.out.setCell (p := ⟨w.heap.size, 0, none⟩) (Nat.le_refl _) _).setCell (p := ⟨w.heap.size, 1, none⟩) (Nat.le_refl _) _).setCell (p := ⟨w.heap.size, 2, none⟩) (Nat.le_refl _) _).setCell (p := ⟨w.heap.size, 3, none⟩) (Nat.le_refl _) _
end Go.Proofs.Ytkkjnahjmomjgaa
