/- What Unpack and its twin in loamref14 answer. No conditions. -/
import Derived.Test.YtfodefgihicafaaDoorHeadC
namespace Go.Proofs.YtfodefgihicafaaDoor
set_option linter.unusedVariables false
set_option linter.unusedSimpArgs false
open Go.RowKit
def unP (x : BitVec 64) : Int := if okU x then fP x else 0
def unB (x : BitVec 64) : Int := if okU x then fB x else 0
def unM' (x : BitVec 64) : Bool := if okU x then fM x else false
def unT (x : BitVec 64) : Int := if okU x then fT x else 0
def unE (x : BitVec 64) : Int := if okU x then 0 else 2
def unV (x : BitVec 64) : Value := .tuple #[.agg #[.int .i64 (unP x), .int .i64 (unB x), .bool (unM' x), .int .i64 (unT x)], .int .i64 (unE x)]
attribute [local go_sem] and1 beqU64
theorem bit0_ne (x : BitVec 64) : (U64 (x &&& 1#64) != 0) = x.getLsbD 0 := by
  have h : (U64 (x &&& 1#64) == 1) = x.getLsbD 0 := by
    have := bit_one x 0
    rwa [BitVec.ushiftRight_zero] at this
  have h2 : U64 (x &&& 1#64) = 0 ∨ U64 (x &&& 1#64) = 1 := by
    unfold U64
    rw [BitVec.toNat_and, show (1#64).toNat = 2 ^ 1 - 1 from rfl, Nat.and_two_pow_sub_one_eq_mod]
    omega
  rw [← h]
  rcases h2 with e | e <;> rw [e] <;> rfl
theorem okU_no {x : BitVec 64} (h : okU x = false) : rightH (fP x) (fB x) (fM x) (fT x) = false ∨ (rightH (fP x) (fB x) (fM x) (fT x) = true ∧ (packH (fP x) (fB x) (fM x) (fT x) == x) = false) := by
  unfold okU at h
  cases h2 : rightH (fP x) (fB x) (fM x) (fT x)
  · exact .inl rfl
  · rw [h2] at h; exact .inr ⟨rfl, by simpa using h⟩
theorem okU_yes {x : BitVec 64} (h : okU x = true) : rightH (fP x) (fB x) (fM x) (fT x) = true ∧ (packH (fP x) (fB x) (fM x) (fT x) == x) = true := by
  unfold okU at h
  rwa [Bool.and_eq_true] at h
theorem unV_yes {x : BitVec 64} (h : okU x = true) : unV x = .tuple #[.agg #[.int .i64 (fP x), .int .i64 (fB x), .bool (fM x), .int .i64 (fT x)], .int .i64 0] := by
  unfold unV unP unB unM' unT unE; simp [h]
theorem unV_no {x : BitVec 64} (h : okU x = false) : unV x = .tuple #[.agg #[.int .i64 0, .int .i64 0, .bool false, .int .i64 0], .int .i64 2] := by
  unfold unV unP unB unM' unT unE; simp [h]
theorem ret_cells {v v' : Value} {w w' : World} (h : v = v') (hb : Below w.heap.size w w') : RetP v' w (.returned v) w' := ⟨by rw [h], hb⟩
set_option maxHeartbeats 400000
theorem unpack_c (x : BitVec 64) (w : World) : Calls Tryd.prog 80 #[.int .u64 (U64 x)] w (RetP (unV x) w) := by
  obtain ⟨p1, p2⟩ := fP_lt x
  obtain ⟨b1, b2⟩ := fB_lt x
  obtain ⟨t1, t2⟩ := fT_lt x
  obtain ⟨m, hm⟩ : ∃ m, fM x = m := ⟨_, rfl⟩
  have hmm : (U64 (x &&& 1#64) != 0) = m := by rw [bit0_ne]; exact hm
  cases hok : okU x
  · have hv := unV_no hok
    rcases okU_no hok with hn | ⟨hn, hp⟩
    · have hn' : rightH (U64 (fieldB x 1 8)) (U64 (fieldB x 16 12)) m (U64 (fieldB x 32 16)) = false := by rw [← hm]; exact hn
      have he : (errH (U64 (fieldB x 1 8)) (U64 (fieldB x 16 12)) m (U64 (fieldB x 32 16)) != 0) = true := by
        unfold errH; rw [hn']; rfl
      have HV := Lib.hid hv
      have HM := Lib.hid hm
      clear hv hn hn' hok hm
      go_enter Tryd.func80, Tryd.ntmps80
      go_wp2_with (first | (go_at_call 89; refine (field_c _ _ _ _).go.mono ?_; rintro e w' ⟨rfl, mm, rfl⟩))
      refine (pack_c _ _ _ _ _).mono ?_
      rintro e w1 ⟨rfl, hb1⟩
      obtain ⟨hk0, hk1, hB⟩ := boxed2 hb1
      clear hb1
      obtain ⟨c0, c1, c2, c3⟩ := hk0.four
      obtain ⟨d0, d1, d2, d3⟩ := hk1.four
      have f0 := hk0.free 0
      have f1 := hk0.free 1
      have f2 := hk0.free 2
      have f3 := hk0.free 3
      clear hk0 hk1
      go_wp2_with fail
      refine bodyPost_ret (v := .tuple #[.agg #[.int .i64 0, .int .i64 0, .bool false, .int .i64 0], .int .i64 2]) (by simp [results, Tryd.results80, go_sem, c0, c1, c2, c3]) rfl ⟨by rw [HV.out]; try rfl, (by repeat (first | with_reducible assumption | with_reducible exact Below.refl _ _ | with_reducible apply bdN | with_reducible apply Below.drew | with_reducible refine Below.alloc ?_ (by simp) _ | with_reducible refine Below.setCell ?_ (by simp) _))⟩
    · rw [hm] at hn hp
      have he : (errH (U64 (fieldB x 1 8)) (U64 (fieldB x 16 12)) m (U64 (fieldB x 32 16)) != 0) = false := by
        have hn' : rightH (U64 (fieldB x 1 8)) (U64 (fieldB x 16 12)) m (U64 (fieldB x 32 16)) = true := hn
        unfold errH; rw [hn']; rfl
      have hp' : (U64 (packH (U64 (fieldB x 1 8)) (U64 (fieldB x 16 12)) m (U64 (fieldB x 32 16))) != U64 x) = true := by
        rw [bne, beqU64, show (packH (U64 (fieldB x 1 8)) (U64 (fieldB x 16 12)) m (U64 (fieldB x 32 16)) == x) = false from hp]; rfl
      have HV := Lib.hid hv
      have HM := Lib.hid hm
      clear hv hn hok hm hp
      go_enter Tryd.func80, Tryd.ntmps80
      go_wp2_with (first | (go_at_call 89; refine (field_c _ _ _ _).go.mono ?_; rintro e w' ⟨rfl, mm, rfl⟩))
      refine (pack_c _ _ _ _ _).mono ?_
      rintro e w1 ⟨rfl, hb1⟩
      obtain ⟨hk0, hk1, hB⟩ := boxed2 hb1
      clear hb1
      obtain ⟨c0, c1, c2, c3⟩ := hk0.four
      obtain ⟨d0, d1, d2, d3⟩ := hk1.four
      have f0 := hk0.free 0
      have f1 := hk0.free 1
      have f2 := hk0.free 2
      have f3 := hk0.free 3
      clear hk0 hk1
      go_wp2_with fail
      refine bodyPost_ret (v := .tuple #[.agg #[.int .i64 0, .int .i64 0, .bool false, .int .i64 0], .int .i64 2]) (by simp [results, Tryd.results80, go_sem, c0, c1, c2, c3]) rfl ⟨by rw [HV.out]; try rfl, (by repeat (first | with_reducible assumption | with_reducible exact Below.refl _ _ | with_reducible apply bdN | with_reducible apply Below.drew | with_reducible refine Below.alloc ?_ (by simp) _ | with_reducible refine Below.setCell ?_ (by simp) _))⟩
  · have hv := unV_yes hok
    · obtain ⟨hn, hp⟩ := okU_yes hok
      rw [hm] at hn hp hv
      have he : (errH (U64 (fieldB x 1 8)) (U64 (fieldB x 16 12)) m (U64 (fieldB x 32 16)) != 0) = false := by
        have hn' : rightH (U64 (fieldB x 1 8)) (U64 (fieldB x 16 12)) m (U64 (fieldB x 32 16)) = true := hn
        unfold errH; rw [hn']; rfl
      have hp' : (U64 (packH (U64 (fieldB x 1 8)) (U64 (fieldB x 16 12)) m (U64 (fieldB x 32 16))) != U64 x) = false := by
        rw [bne, beqU64, show (packH (U64 (fieldB x 1 8)) (U64 (fieldB x 16 12)) m (U64 (fieldB x 32 16)) == x) = true from hp]; rfl
      have hv2 : unV x = .tuple #[.agg #[.int .i64 (U64 (fieldB x 1 8)), .int .i64 (U64 (fieldB x 16 12)), .bool m, .int .i64 (U64 (fieldB x 32 16))], .int .i64 0] := hv
      have HV := Lib.hid hv2
      clear hv2
      have HM := Lib.hid hm
      clear hv hn hok hm hp
      go_enter Tryd.func80, Tryd.ntmps80
      go_wp2_with (first | (go_at_call 89; refine (field_c _ _ _ _).go.mono ?_; rintro e w' ⟨rfl, mm, rfl⟩))
      refine (pack_c _ _ _ _ _).mono ?_
      rintro e w1 ⟨rfl, hb1⟩
      obtain ⟨hk0, hk1, hB⟩ := boxed2 hb1
      clear hb1
      obtain ⟨c0, c1, c2, c3⟩ := hk0.four
      obtain ⟨d0, d1, d2, d3⟩ := hk1.four
      have f0 := hk0.free 0
      have f1 := hk0.free 1
      have f2 := hk0.free 2
      have f3 := hk0.free 3
      clear hk0 hk1
      go_wp2_with fail
      refine bodyPost_ret (v := .tuple #[.agg #[.int .i64 (U64 (fieldB x 1 8)), .int .i64 (U64 (fieldB x 16 12)), .bool m, .int .i64 (U64 (fieldB x 32 16))], .int .i64 0]) (by simp [results, Tryd.results80, go_sem, c0, c1, c2, c3]) rfl (ret_cells HV.out.symm (by repeat (first | with_reducible assumption | with_reducible exact Below.refl _ _ | with_reducible apply bdN | with_reducible apply Below.drew | with_reducible refine Below.alloc ?_ (by simp) _ | with_reducible refine Below.setCell ?_ (by simp) _)))
end Go.Proofs.YtfodefgihicafaaDoor
