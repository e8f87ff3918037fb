/- What loamref14.Unpack answers: what Unpack answers. No conditions. -/
import Derived.Test.YtfodefgihicafaaDoorHeadD
namespace Go.Proofs.YtfodefgihicafaaDoor
set_option linter.unusedVariables false
set_option linter.unusedSimpArgs false
open Go.RowKit
attribute [local go_sem] and1 beqU64
theorem bit0_eq (x : BitVec 64) : (U64 (x &&& 1#64) == 1) = x.getLsbD 0 := by
  have := bit_one x 0
  rwa [BitVec.ushiftRight_zero] at this
theorem boxed3 {w w1 : World} {E : TypeId} {a : Array Value} {x0 x1 x2 x3 y0 y1 y2 y3 : Value} {k l : Nat}
    (hb : Below ((((((((w.alloc (.cells a E)).drewN k).alloc (.cells #[x0, x1, x2, x3] E)).drewN l).setCell ⟨w.heap.size + 1, 0, none⟩ y0).setCell ⟨w.heap.size + 1, 1, none⟩ y1).setCell ⟨w.heap.size + 1, 2, none⟩ y2).setCell ⟨w.heap.size + 1, 3, none⟩ y3).heap.size ((((((((w.alloc (.cells a E)).drewN k).alloc (.cells #[x0, x1, x2, x3] E)).drewN l).setCell ⟨w.heap.size + 1, 0, none⟩ y0).setCell ⟨w.heap.size + 1, 1, none⟩ y1).setCell ⟨w.heap.size + 1, 2, none⟩ y2).setCell ⟨w.heap.size + 1, 3, none⟩ y3) w1) :
    Bk w1 w.heap.size E a ∧ Bk w1 (w.heap.size + 1) E #[y0, y1, y2, y3] ∧ Below w.heap.size w w1 := by
  have h2 := Bk.new ((w.alloc (.cells a E)).drewN k) E #[x0, x1, x2, x3]
  simp only [World.heap_drewN, World.size_alloc] at h2
  have h3 := ((((h2.drewN l).set 0 y0).set 1 y1).set 2 y2).set 3 y3
  have h1 := ((((((Bk.new w E a).drewN k).alloc (.cells #[x0, x1, x2, x3] E)).drewN l).far (p := ⟨w.heap.size + 1, 0, none⟩) (by simp) y0).far (p := ⟨w.heap.size + 1, 1, none⟩) (by simp) y1).far (p := ⟨w.heap.size + 1, 2, none⟩) (by simp) y2 |>.far (p := ⟨w.heap.size + 1, 3, none⟩) (by simp) y3
  refine ⟨h1.below hb h1.lt, h3.below hb h3.lt, ?_⟩
  refine Below.trans ?_ (hb.mono (by simp; omega))
  exact (by repeat (first | with_reducible assumption | with_reducible exact Below.refl _ _ | with_reducible apply bdN | with_reducible apply Below.drew | with_reducible refine Below.alloc ?_ (by simp) _ | with_reducible refine Below.setCell ?_ (by simp) _))
set_option maxHeartbeats 400000
theorem runpack_false (x : BitVec 64) (hm : fM x = false) (w : World) : Calls Tryd.prog 46 #[.int .u64 (U64 x)] w (RetP (unV x) w) := by
  obtain ⟨p1, p2⟩ := fP_lt x
  obtain ⟨b1, b2⟩ := fB_lt x
  obtain ⟨t1, t2⟩ := fT_lt x
  have hmm : (U64 (x &&& 1#64) == 1) = false := by rw [bit0_eq]; exact hm
  obtain ⟨hq, hz⟩ := ok_plain x hm
  have hq' : (rightH (U64 (fieldB x 1 8)) (U64 (fieldB x 16 12)) false 0 && (packH (U64 (fieldB x 1 8)) (U64 (fieldB x 16 12)) false 0 == x)) = okU x := hq
  clear hq
  cases hr : rightH (U64 (fieldB x 1 8)) (U64 (fieldB x 16 12)) false 0
  · rw [hr] at hq'
    have hv := unV_no hq'.symm
    have he : (errH (U64 (fieldB x 1 8)) (U64 (fieldB x 16 12)) false 0 != 0) = true := by unfold errH; rw [hr]; rfl
    have HV := Lib.hid hv
    clear hv hq' hr hm hz
    go_enter Tryd.func46, Tryd.ntmps46
    go_wp2_with (first | (go_at_call 70; refine (rfield_c _ _ _ (by decide) (by decide) _).go.mono ?_; rintro e w' ⟨rfl, mm, rfl⟩))
    refine (rpack_c _ _ _ _ _).mono ?_
    rintro e w1 ⟨rfl, hb1⟩
    obtain ⟨hk0, hk1, hB⟩ := boxed2 hb1
    clear hb1
    obtain ⟨c0, c1, c2, c3⟩ := hk0.four
    obtain ⟨d0, d1, d2, d3⟩ := hk1.four
    have f0 := hk0.free 0
    have f1 := hk0.free 1
    have f2 := hk0.free 2
    have f3 := hk0.free 3
    clear hk0 hk1
    go_wp2_with fail
    refine bodyPost_ret (v := .tuple #[.agg #[.int .i64 0, .int .i64 0, .bool false, .int .i64 0], .int .i64 2]) (by simp [results, Tryd.results46, go_sem, c0, c1, c2, c3]) rfl (ret_cells HV.out.symm (by repeat (first | with_reducible assumption | with_reducible exact Below.refl _ _ | with_reducible apply bdN | with_reducible apply Below.drew | with_reducible refine Below.alloc ?_ (by simp) _ | with_reducible refine Below.setCell ?_ (by simp) _)))
  · rw [hr] at hq'
    have he : (errH (U64 (fieldB x 1 8)) (U64 (fieldB x 16 12)) false 0 != 0) = false := by unfold errH; rw [hr]; rfl
    cases hp : (packH (U64 (fieldB x 1 8)) (U64 (fieldB x 16 12)) false 0 == x)
    · rw [hp] at hq'
      have hv := unV_no hq'.symm
      have hp' : (U64 (packH (U64 (fieldB x 1 8)) (U64 (fieldB x 16 12)) false 0) != U64 x) = true := by rw [bne, beqU64, hp]; rfl
      have HV := Lib.hid hv
      clear hv hq' hr hm hz hp
      go_enter Tryd.func46, Tryd.ntmps46
      go_wp2_with (first | (go_at_call 70; refine (rfield_c _ _ _ (by decide) (by decide) _).go.mono ?_; rintro e w' ⟨rfl, mm, rfl⟩))
      refine (rpack_c _ _ _ _ _).mono ?_
      rintro e w1 ⟨rfl, hb1⟩
      obtain ⟨hk0, hk1, hB⟩ := boxed2 hb1
      clear hb1
      obtain ⟨c0, c1, c2, c3⟩ := hk0.four
      obtain ⟨d0, d1, d2, d3⟩ := hk1.four
      have f0 := hk0.free 0
      have f1 := hk0.free 1
      have f2 := hk0.free 2
      have f3 := hk0.free 3
      clear hk0 hk1
      go_wp2_with fail
      refine bodyPost_ret (v := .tuple #[.agg #[.int .i64 0, .int .i64 0, .bool false, .int .i64 0], .int .i64 2]) (by simp [results, Tryd.results46, go_sem, c0, c1, c2, c3]) rfl (ret_cells HV.out.symm (by repeat (first | with_reducible assumption | with_reducible exact Below.refl _ _ | with_reducible apply bdN | with_reducible apply Below.drew | with_reducible refine Below.alloc ?_ (by simp) _ | with_reducible refine Below.setCell ?_ (by simp) _)))
    · rw [hp] at hq'
      have hv := unV_yes hq'.symm
      have hz' := hz hq'.symm
      have hv2 : unV x = .tuple #[.agg #[.int .i64 (U64 (fieldB x 1 8)), .int .i64 (U64 (fieldB x 16 12)), .bool false, .int .i64 0], .int .i64 0] := by rw [hv, hm]; rw [hz']; rfl
      have hp' : (U64 (packH (U64 (fieldB x 1 8)) (U64 (fieldB x 16 12)) false 0) != U64 x) = false := by rw [bne, beqU64, hp]; rfl
      have HV := Lib.hid hv2
      clear hv hv2 hz' hq' hr hm hz hp
      go_enter Tryd.func46, Tryd.ntmps46
      go_wp2_with (first | (go_at_call 70; refine (rfield_c _ _ _ (by decide) (by decide) _).go.mono ?_; rintro e w' ⟨rfl, mm, rfl⟩))
      refine (rpack_c _ _ _ _ _).mono ?_
      rintro e w1 ⟨rfl, hb1⟩
      obtain ⟨hk0, hk1, hB⟩ := boxed2 hb1
      clear hb1
      obtain ⟨c0, c1, c2, c3⟩ := hk0.four
      obtain ⟨d0, d1, d2, d3⟩ := hk1.four
      have f0 := hk0.free 0
      have f1 := hk0.free 1
      have f2 := hk0.free 2
      have f3 := hk0.free 3
      clear hk0 hk1
      go_wp2_with fail
      refine bodyPost_ret (v := .tuple #[.agg #[.int .i64 (U64 (fieldB x 1 8)), .int .i64 (U64 (fieldB x 16 12)), .bool false, .int .i64 0], .int .i64 0]) (by simp [results, Tryd.results46, go_sem, c0, c1, c2, c3]) rfl (ret_cells HV.out.symm (by repeat (first | with_reducible assumption | with_reducible exact Below.refl _ _ | with_reducible apply bdN | with_reducible apply Below.drew | with_reducible refine Below.alloc ?_ (by simp) _ | with_reducible refine Below.setCell ?_ (by simp) _)))
theorem runpack_true (x : BitVec 64) (hm : fM x = true) (w : World) : Calls Tryd.prog 46 #[.int .u64 (U64 x)] w (RetP (unV x) w) := by
  obtain ⟨p1, p2⟩ := fP_lt x
  obtain ⟨b1, b2⟩ := fB_lt x
  obtain ⟨t1, t2⟩ := fT_lt x
  have hmm : (U64 (x &&& 1#64) == 1) = true := by rw [bit0_eq]; exact hm
  obtain ⟨hq, hz⟩ := ok_moved x hm
  have hq' : (rightH 0 0 true (U64 (fieldB x 32 16)) && (packH 0 0 true (U64 (fieldB x 32 16)) == x)) = okU x := hq
  clear hq
  cases hr : rightH 0 0 true (U64 (fieldB x 32 16))
  · rw [hr] at hq'
    have hv := unV_no hq'.symm
    have he : (errH 0 0 true (U64 (fieldB x 32 16)) != 0) = true := by unfold errH; rw [hr]; rfl
    have HV := Lib.hid hv
    clear hv hq' hr hm hz
    go_enter Tryd.func46, Tryd.ntmps46
    go_wp2_with (first | (go_at_call 70; refine (rfield_c _ _ _ (by decide) (by decide) _).go.mono ?_; rintro e w' ⟨rfl, mm, rfl⟩))
    refine (rpack_c _ _ _ _ _).mono ?_
    rintro e w1 ⟨rfl, hb1⟩
    obtain ⟨hk0, hk1, hB⟩ := boxed3 hb1
    clear hb1
    obtain ⟨c0, c1, c2, c3⟩ := hk0.four
    obtain ⟨d0, d1, d2, d3⟩ := hk1.four
    have f0 := hk0.free 0
    have f1 := hk0.free 1
    have f2 := hk0.free 2
    have f3 := hk0.free 3
    clear hk0 hk1
    go_wp2_with fail
    refine bodyPost_ret (v := .tuple #[.agg #[.int .i64 0, .int .i64 0, .bool false, .int .i64 0], .int .i64 2]) (by simp [results, Tryd.results46, go_sem, c0, c1, c2, c3]) rfl (ret_cells HV.out.symm (by repeat (first | with_reducible assumption | with_reducible exact Below.refl _ _ | with_reducible apply bdN | with_reducible apply Below.drew | with_reducible refine Below.alloc ?_ (by simp) _ | with_reducible refine Below.setCell ?_ (by simp) _)))
  · rw [hr] at hq'
    have he : (errH 0 0 true (U64 (fieldB x 32 16)) != 0) = false := by unfold errH; rw [hr]; rfl
    cases hp : (packH 0 0 true (U64 (fieldB x 32 16)) == x)
    · rw [hp] at hq'
      have hv := unV_no hq'.symm
      have hp' : (U64 (packH 0 0 true (U64 (fieldB x 32 16))) != U64 x) = true := by rw [bne, beqU64, hp]; rfl
      have HV := Lib.hid hv
      clear hv hq' hr hm hz hp
      go_enter Tryd.func46, Tryd.ntmps46
      go_wp2_with (first | (go_at_call 70; refine (rfield_c _ _ _ (by decide) (by decide) _).go.mono ?_; rintro e w' ⟨rfl, mm, rfl⟩))
      refine (rpack_c _ _ _ _ _).mono ?_
      rintro e w1 ⟨rfl, hb1⟩
      obtain ⟨hk0, hk1, hB⟩ := boxed3 hb1
      clear hb1
      obtain ⟨c0, c1, c2, c3⟩ := hk0.four
      obtain ⟨d0, d1, d2, d3⟩ := hk1.four
      have f0 := hk0.free 0
      have f1 := hk0.free 1
      have f2 := hk0.free 2
      have f3 := hk0.free 3
      clear hk0 hk1
      go_wp2_with fail
      refine bodyPost_ret (v := .tuple #[.agg #[.int .i64 0, .int .i64 0, .bool false, .int .i64 0], .int .i64 2]) (by simp [results, Tryd.results46, go_sem, c0, c1, c2, c3]) rfl (ret_cells HV.out.symm (by repeat (first | with_reducible assumption | with_reducible exact Below.refl _ _ | with_reducible apply bdN | with_reducible apply Below.drew | with_reducible refine Below.alloc ?_ (by simp) _ | with_reducible refine Below.setCell ?_ (by simp) _)))
    · rw [hp] at hq'
      have hv := unV_yes hq'.symm
      have hz' := hz hq'.symm
      have hv2 : unV x = .tuple #[.agg #[.int .i64 0, .int .i64 0, .bool true, .int .i64 (U64 (fieldB x 32 16))], .int .i64 0] := by rw [hv, hm]; rw [hz'.1, hz'.2]; rfl
      have hp' : (U64 (packH 0 0 true (U64 (fieldB x 32 16))) != U64 x) = false := by rw [bne, beqU64, hp]; rfl
      have HV := Lib.hid hv2
      clear hv hv2 hz' hq' hr hm hz hp
      go_enter Tryd.func46, Tryd.ntmps46
      go_wp2_with (first | (go_at_call 70; refine (rfield_c _ _ _ (by decide) (by decide) _).go.mono ?_; rintro e w' ⟨rfl, mm, rfl⟩))
      refine (rpack_c _ _ _ _ _).mono ?_
      rintro e w1 ⟨rfl, hb1⟩
      obtain ⟨hk0, hk1, hB⟩ := boxed3 hb1
      clear hb1
      obtain ⟨c0, c1, c2, c3⟩ := hk0.four
      obtain ⟨d0, d1, d2, d3⟩ := hk1.four
      have f0 := hk0.free 0
      have f1 := hk0.free 1
      have f2 := hk0.free 2
      have f3 := hk0.free 3
      clear hk0 hk1
      go_wp2_with fail
      refine bodyPost_ret (v := .tuple #[.agg #[.int .i64 0, .int .i64 0, .bool true, .int .i64 (U64 (fieldB x 32 16))], .int .i64 0]) (by simp [results, Tryd.results46, go_sem, c0, c1, c2, c3]) rfl (ret_cells HV.out.symm (by repeat (first | with_reducible assumption | with_reducible exact Below.refl _ _ | with_reducible apply bdN | with_reducible apply Below.drew | with_reducible refine Below.alloc ?_ (by simp) _ | with_reducible refine Below.setCell ?_ (by simp) _)))
theorem runpack_c (x : BitVec 64) (w : World) : Calls Tryd.prog 46 #[.int .u64 (U64 x)] w (RetP (unV x) w) := by
  cases hm : fM x
  · exact runpack_false x hm w
  · exact runpack_true x hm w
end Go.Proofs.YtfodefgihicafaaDoor
