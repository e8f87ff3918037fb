/- Texts joined: HeadE Str Frame HeadF RegT SpA SpB SpC. -/
import Derived.Test.YtfodefgihicafaaDoorOa2
import Derived.Laws.BytesArg
import Derived.Laws.IdiomStrings
import Derived.Test.YtfodefgihicafaaDoorRows
import Derived.WalkKit
import Derived.ProofKit
import Derived.OpenShut
import Derived.ShutString
import Derived.ChangeOld
import Derived.Below
import Derived.Lib.SmallJoins
/- What loamref14.Unpack answers: what Unpack answers. No conditions. -/
namespace Go.Proofs.YtfodefgihicafaaDoor
set_option linter.unusedVariables false
set_option linter.unusedSimpArgs false
open Go.RowKit
attribute [local go_sem] and1 beqU64
theorem bit0_eq (x : BitVec 64) : (U64 (x &&& 1#64) == 1) = x.getLsbD 0 := by
  have := bit_one x 0
  rwa [BitVec.ushiftRight_zero] at this
theorem boxed3 {w w1 : World} {E : TypeId} {a : Array Value} {x0 x1 x2 x3 y0 y1 y2 y3 : Value} {k l : Nat}
    (hb : Below ((((((((w.alloc (.cells a E)).drewN k).alloc (.cells #[x0, x1, x2, x3] E)).drewN l).setCell ⟨w.heap.size + 1, 0, none⟩ y0).setCell ⟨w.heap.size + 1, 1, none⟩ y1).setCell ⟨w.heap.size + 1, 2, none⟩ y2).setCell ⟨w.heap.size + 1, 3, none⟩ y3).heap.size ((((((((w.alloc (.cells a E)).drewN k).alloc (.cells #[x0, x1, x2, x3] E)).drewN l).setCell ⟨w.heap.size + 1, 0, none⟩ y0).setCell ⟨w.heap.size + 1, 1, none⟩ y1).setCell ⟨w.heap.size + 1, 2, none⟩ y2).setCell ⟨w.heap.size + 1, 3, none⟩ y3) w1) :
    Bk w1 w.heap.size E a ∧ Bk w1 (w.heap.size + 1) E #[y0, y1, y2, y3] ∧ Below w.heap.size w w1 := by
  have h2 := Bk.new ((w.alloc (.cells a E)).drewN k) E #[x0, x1, x2, x3]
  simp only [World.heap_drewN, World.size_alloc] at h2
  have h3 := ((((h2.drewN l).set 0 y0).set 1 y1).set 2 y2).set 3 y3
  have h1 := ((((((Bk.new w E a).drewN k).alloc (.cells #[x0, x1, x2, x3] E)).drewN l).far (p := ⟨w.heap.size + 1, 0, none⟩) (by simp) y0).far (p := ⟨w.heap.size + 1, 1, none⟩) (by simp) y1).far (p := ⟨w.heap.size + 1, 2, none⟩) (by simp) y2 |>.far (p := ⟨w.heap.size + 1, 3, none⟩) (by simp) y3
  refine ⟨h1.below hb h1.lt, h3.below hb h3.lt, ?_⟩
  refine Below.trans ?_ (hb.mono (by simp; omega))
  exact (by repeat (first | with_reducible assumption | with_reducible exact Below.refl _ _ | with_reducible apply bdN | with_reducible apply Below.drew | with_reducible refine Below.alloc ?_ (by simp) _ | with_reducible refine Below.setCell ?_ (by simp) _))
set_option maxHeartbeats 400000
theorem runpack_false (x : BitVec 64) (hm : fM x = false) (w : World) : Calls Tryd.prog 46 #[.int .u64 (U64 x)] w (RetP (unV x) w) := by
  obtain ⟨p1, p2⟩ := fP_lt x
  obtain ⟨b1, b2⟩ := fB_lt x
  obtain ⟨t1, t2⟩ := fT_lt x
  have hmm : (U64 (x &&& 1#64) == 1) = false := by rw [bit0_eq]; exact hm
  obtain ⟨hq, hz⟩ := ok_plain x hm
  have hq' : (rightH (U64 (fieldB x 1 8)) (U64 (fieldB x 16 12)) false 0 && (packH (U64 (fieldB x 1 8)) (U64 (fieldB x 16 12)) false 0 == x)) = okU x := hq
  clear hq
  cases hr : rightH (U64 (fieldB x 1 8)) (U64 (fieldB x 16 12)) false 0
  · rw [hr] at hq'
    have hv := unV_no hq'.symm
    have he : (errH (U64 (fieldB x 1 8)) (U64 (fieldB x 16 12)) false 0 != 0) = true := by unfold errH; rw [hr]; rfl
    have HV := Lib.hid hv
    clear hv hq' hr hm hz
    go_enter Tryd.func46, Tryd.ntmps46
    go_wp2_with (first | (go_at_call 70; refine (rfield_c _ _ _ (by decide) (by decide) _).go.mono ?_; rintro e w' ⟨rfl, mm, rfl⟩))
    refine (rpack_c _ _ _ _ _).mono ?_
    rintro e w1 ⟨rfl, hb1⟩
    obtain ⟨hk0, hk1, hB⟩ := boxed2 hb1
    clear hb1
    obtain ⟨c0, c1, c2, c3⟩ := hk0.four
    obtain ⟨d0, d1, d2, d3⟩ := hk1.four
    have f0 := hk0.free 0
    have f1 := hk0.free 1
    have f2 := hk0.free 2
    have f3 := hk0.free 3
    clear hk0 hk1
    go_wp2_with fail
    refine bodyPost_ret (v := .tuple #[.agg #[.int .i64 0, .int .i64 0, .bool false, .int .i64 0], .int .i64 2]) (by simp [results, Tryd.results46, go_sem, c0, c1, c2, c3]) rfl (ret_cells HV.out.symm (by repeat (first | with_reducible assumption | with_reducible exact Below.refl _ _ | with_reducible apply bdN | with_reducible apply Below.drew | with_reducible refine Below.alloc ?_ (by simp) _ | with_reducible refine Below.setCell ?_ (by simp) _)))
  · rw [hr] at hq'
    have he : (errH (U64 (fieldB x 1 8)) (U64 (fieldB x 16 12)) false 0 != 0) = false := by unfold errH; rw [hr]; rfl
    cases hp : (packH (U64 (fieldB x 1 8)) (U64 (fieldB x 16 12)) false 0 == x)
    · rw [hp] at hq'
      have hv := unV_no hq'.symm
      have hp' : (U64 (packH (U64 (fieldB x 1 8)) (U64 (fieldB x 16 12)) false 0) != U64 x) = true := by rw [bne, beqU64, hp]; rfl
      have HV := Lib.hid hv
      clear hv hq' hr hm hz hp
      go_enter Tryd.func46, Tryd.ntmps46
      go_wp2_with (first | (go_at_call 70; refine (rfield_c _ _ _ (by decide) (by decide) _).go.mono ?_; rintro e w' ⟨rfl, mm, rfl⟩))
      refine (rpack_c _ _ _ _ _).mono ?_
      rintro e w1 ⟨rfl, hb1⟩
      obtain ⟨hk0, hk1, hB⟩ := boxed2 hb1
      clear hb1
      obtain ⟨c0, c1, c2, c3⟩ := hk0.four
      obtain ⟨d0, d1, d2, d3⟩ := hk1.four
      have f0 := hk0.free 0
      have f1 := hk0.free 1
      have f2 := hk0.free 2
      have f3 := hk0.free 3
      clear hk0 hk1
      go_wp2_with fail
      refine bodyPost_ret (v := .tuple #[.agg #[.int .i64 0, .int .i64 0, .bool false, .int .i64 0], .int .i64 2]) (by simp [results, Tryd.results46, go_sem, c0, c1, c2, c3]) rfl (ret_cells HV.out.symm (by repeat (first | with_reducible assumption | with_reducible exact Below.refl _ _ | with_reducible apply bdN | with_reducible apply Below.drew | with_reducible refine Below.alloc ?_ (by simp) _ | with_reducible refine Below.setCell ?_ (by simp) _)))
    · rw [hp] at hq'
      have hv := unV_yes hq'.symm
      have hz' := hz hq'.symm
      have hv2 : unV x = .tuple #[.agg #[.int .i64 (U64 (fieldB x 1 8)), .int .i64 (U64 (fieldB x 16 12)), .bool false, .int .i64 0], .int .i64 0] := by rw [hv, hm]; rw [hz']; rfl
      have hp' : (U64 (packH (U64 (fieldB x 1 8)) (U64 (fieldB x 16 12)) false 0) != U64 x) = false := by rw [bne, beqU64, hp]; rfl
      have HV := Lib.hid hv2
      clear hv hv2 hz' hq' hr hm hz hp
      go_enter Tryd.func46, Tryd.ntmps46
      go_wp2_with (first | (go_at_call 70; refine (rfield_c _ _ _ (by decide) (by decide) _).go.mono ?_; rintro e w' ⟨rfl, mm, rfl⟩))
      refine (rpack_c _ _ _ _ _).mono ?_
      rintro e w1 ⟨rfl, hb1⟩
      obtain ⟨hk0, hk1, hB⟩ := boxed2 hb1
      clear hb1
      obtain ⟨c0, c1, c2, c3⟩ := hk0.four
      obtain ⟨d0, d1, d2, d3⟩ := hk1.four
      have f0 := hk0.free 0
      have f1 := hk0.free 1
      have f2 := hk0.free 2
      have f3 := hk0.free 3
      clear hk0 hk1
      go_wp2_with fail
      refine bodyPost_ret (v := .tuple #[.agg #[.int .i64 (U64 (fieldB x 1 8)), .int .i64 (U64 (fieldB x 16 12)), .bool false, .int .i64 0], .int .i64 0]) (by simp [results, Tryd.results46, go_sem, c0, c1, c2, c3]) rfl (ret_cells HV.out.symm (by repeat (first | with_reducible assumption | with_reducible exact Below.refl _ _ | with_reducible apply bdN | with_reducible apply Below.drew | with_reducible refine Below.alloc ?_ (by simp) _ | with_reducible refine Below.setCell ?_ (by simp) _)))
theorem runpack_true (x : BitVec 64) (hm : fM x = true) (w : World) : Calls Tryd.prog 46 #[.int .u64 (U64 x)] w (RetP (unV x) w) := by
  obtain ⟨p1, p2⟩ := fP_lt x
  obtain ⟨b1, b2⟩ := fB_lt x
  obtain ⟨t1, t2⟩ := fT_lt x
  have hmm : (U64 (x &&& 1#64) == 1) = true := by rw [bit0_eq]; exact hm
  obtain ⟨hq, hz⟩ := ok_moved x hm
  have hq' : (rightH 0 0 true (U64 (fieldB x 32 16)) && (packH 0 0 true (U64 (fieldB x 32 16)) == x)) = okU x := hq
  clear hq
  cases hr : rightH 0 0 true (U64 (fieldB x 32 16))
  · rw [hr] at hq'
    have hv := unV_no hq'.symm
    have he : (errH 0 0 true (U64 (fieldB x 32 16)) != 0) = true := by unfold errH; rw [hr]; rfl
    have HV := Lib.hid hv
    clear hv hq' hr hm hz
    go_enter Tryd.func46, Tryd.ntmps46
    go_wp2_with (first | (go_at_call 70; refine (rfield_c _ _ _ (by decide) (by decide) _).go.mono ?_; rintro e w' ⟨rfl, mm, rfl⟩))
    refine (rpack_c _ _ _ _ _).mono ?_
    rintro e w1 ⟨rfl, hb1⟩
    obtain ⟨hk0, hk1, hB⟩ := boxed3 hb1
    clear hb1
    obtain ⟨c0, c1, c2, c3⟩ := hk0.four
    obtain ⟨d0, d1, d2, d3⟩ := hk1.four
    have f0 := hk0.free 0
    have f1 := hk0.free 1
    have f2 := hk0.free 2
    have f3 := hk0.free 3
    clear hk0 hk1
    go_wp2_with fail
    refine bodyPost_ret (v := .tuple #[.agg #[.int .i64 0, .int .i64 0, .bool false, .int .i64 0], .int .i64 2]) (by simp [results, Tryd.results46, go_sem, c0, c1, c2, c3]) rfl (ret_cells HV.out.symm (by repeat (first | with_reducible assumption | with_reducible exact Below.refl _ _ | with_reducible apply bdN | with_reducible apply Below.drew | with_reducible refine Below.alloc ?_ (by simp) _ | with_reducible refine Below.setCell ?_ (by simp) _)))
  · rw [hr] at hq'
    have he : (errH 0 0 true (U64 (fieldB x 32 16)) != 0) = false := by unfold errH; rw [hr]; rfl
    cases hp : (packH 0 0 true (U64 (fieldB x 32 16)) == x)
    · rw [hp] at hq'
      have hv := unV_no hq'.symm
      have hp' : (U64 (packH 0 0 true (U64 (fieldB x 32 16))) != U64 x) = true := by rw [bne, beqU64, hp]; rfl
      have HV := Lib.hid hv
      clear hv hq' hr hm hz hp
      go_enter Tryd.func46, Tryd.ntmps46
      go_wp2_with (first | (go_at_call 70; refine (rfield_c _ _ _ (by decide) (by decide) _).go.mono ?_; rintro e w' ⟨rfl, mm, rfl⟩))
      refine (rpack_c _ _ _ _ _).mono ?_
      rintro e w1 ⟨rfl, hb1⟩
      obtain ⟨hk0, hk1, hB⟩ := boxed3 hb1
      clear hb1
      obtain ⟨c0, c1, c2, c3⟩ := hk0.four
      obtain ⟨d0, d1, d2, d3⟩ := hk1.four
      have f0 := hk0.free 0
      have f1 := hk0.free 1
      have f2 := hk0.free 2
      have f3 := hk0.free 3
      clear hk0 hk1
      go_wp2_with fail
      refine bodyPost_ret (v := .tuple #[.agg #[.int .i64 0, .int .i64 0, .bool false, .int .i64 0], .int .i64 2]) (by simp [results, Tryd.results46, go_sem, c0, c1, c2, c3]) rfl (ret_cells HV.out.symm (by repeat (first | with_reducible assumption | with_reducible exact Below.refl _ _ | with_reducible apply bdN | with_reducible apply Below.drew | with_reducible refine Below.alloc ?_ (by simp) _ | with_reducible refine Below.setCell ?_ (by simp) _)))
    · rw [hp] at hq'
      have hv := unV_yes hq'.symm
      have hz' := hz hq'.symm
      have hv2 : unV x = .tuple #[.agg #[.int .i64 0, .int .i64 0, .bool true, .int .i64 (U64 (fieldB x 32 16))], .int .i64 0] := by rw [hv, hm]; rw [hz'.1, hz'.2]; rfl
      have hp' : (U64 (packH 0 0 true (U64 (fieldB x 32 16))) != U64 x) = false := by rw [bne, beqU64, hp]; rfl
      have HV := Lib.hid hv2
      clear hv hv2 hz' hq' hr hm hz hp
      go_enter Tryd.func46, Tryd.ntmps46
      go_wp2_with (first | (go_at_call 70; refine (rfield_c _ _ _ (by decide) (by decide) _).go.mono ?_; rintro e w' ⟨rfl, mm, rfl⟩))
      refine (rpack_c _ _ _ _ _).mono ?_
      rintro e w1 ⟨rfl, hb1⟩
      obtain ⟨hk0, hk1, hB⟩ := boxed3 hb1
      clear hb1
      obtain ⟨c0, c1, c2, c3⟩ := hk0.four
      obtain ⟨d0, d1, d2, d3⟩ := hk1.four
      have f0 := hk0.free 0
      have f1 := hk0.free 1
      have f2 := hk0.free 2
      have f3 := hk0.free 3
      clear hk0 hk1
      go_wp2_with fail
      refine bodyPost_ret (v := .tuple #[.agg #[.int .i64 0, .int .i64 0, .bool true, .int .i64 (U64 (fieldB x 32 16))], .int .i64 0]) (by simp [results, Tryd.results46, go_sem, c0, c1, c2, c3]) rfl (ret_cells HV.out.symm (by repeat (first | with_reducible assumption | with_reducible exact Below.refl _ _ | with_reducible apply bdN | with_reducible apply Below.drew | with_reducible refine Below.alloc ?_ (by simp) _ | with_reducible refine Below.setCell ?_ (by simp) _)))
theorem runpack_c (x : BitVec 64) (w : World) : Calls Tryd.prog 46 #[.int .u64 (U64 x)] w (RetP (unV x) w) := by
  cases hm : fM x
  · exact runpack_false x hm w
  · exact runpack_true x hm w
end Go.Proofs.YtfodefgihicafaaDoor
/- Bytes as a string: the conversion, as an equation for the walk. No conditions. -/
namespace Go.Proofs.YtfodefgihicafaaDoor
set_option linter.unusedVariables false
set_option linter.unusedSimpArgs false
open Go.RowKit
def strL (bs : List (BitVec 8)) : List UInt8 := bs.map UInt8.ofBitVec
def strB (bs : List (BitVec 8)) : ByteArray := ⟨(strL bs).toArray⟩
theorem strB_inj {x y : List (BitVec 8)} (h : strB x = strB y) : x = y := by
  unfold strB strL at h
  injection h with h
  have h2 := congrArg Array.toList h
  simp only at h2
  have inj : ∀ a b : BitVec 8, UInt8.ofBitVec a = UInt8.ofBitVec b → a = b := fun a b e => by injection e
  induction x generalizing y with
  | nil => cases y <;> simp_all
  | cons a x ih => cases y with
    | nil => simp at h2
    | cons b y =>
      simp only [List.map_cons, List.cons.injEq] at h2
      rw [inj _ _ h2.1, ih (by simp [h2.2]) h2.2]
theorem str_conv (bs : List (BitVec 8)) (A : Option Addr) (c B : Nat) (w : World) (h : Rd b8 w B A bs) :
    (convert 30 9 (.slice A bs.length c)).run Tryd.prog w = .ok (.string (strB bs)) w := by
  rcases Nat.eq_zero_or_pos bs.length with h0 | hp
  · have : bs = [] := List.eq_nil_of_length_eq_zero h0
    subst this
    rcases A with _ | ad
    · exact run_convert_bytes_nil w _ 5 (by kernel_rfl) (by kernel_rfl) 0 c _ (by kernel_rfl)
    · exact run_convert_bytes_back w _ _ 5 ad c [] (by kernel_rfl) (by kernel_rfl) (by kernel_rfl) (fun j hj => absurd hj (by simp))
  · obtain ⟨ad, rfl, _, hc⟩ := h.addr hp
    have e : bs.length = (strL bs).length := by simp [strL]
    rw [e]
    refine run_convert_bytes_back w _ _ 5 ad c (strL bs) (by kernel_rfl) (by kernel_rfl) (by kernel_rfl) (fun j hj => ?_)
    have hj' : j < bs.length := by rw [e]; exact hj
    rw [hc j hj']
    simp [b8, U8, strL]
end Go.Proofs.YtfodefgihicafaaDoor
/- How an argument of a law is opened: numbers by their bounds, bytes as a list. No conditions. -/
namespace Go.Proofs.YtfodefgihicafaaDoor
set_option linter.unusedVariables false
set_option linter.unusedSimpArgs false
open Go.ChangeShapes Go.WideShapes Go.ChangeAt Go.RowKit
/-- A call that answers v; what was there ahead of it is as it was. -/
def TruP (v : Value) (w : World) (e : Ending) (w' : World) : Prop := e = .returned v ∧ Below w.heap.size w w'
theorem own : ownKnob Tryd.prog.godebug = none := by kernel_rfl
theorem laidOut : laidOutB Tryd.prog = true := by kernel_rfl
theorem cell_lt {w : World} {a : Addr} {v : Value} (h : w.cell? a = some v) : a.block < w.heap.size := by
  rcases Nat.lt_or_ge a.block w.heap.size with hl | hl
  · exact hl
  · unfold World.cell? at h; rw [Array.getElem?_eq_none hl] at h; cases h
theorem wf64 {n : Int} (h : (Lit.int .i64 n).wf = true) : -9223372036854775808 ≤ n ∧ n ≤ 9223372036854775807 := by
  simpa [Lit.wf, IntKind.min, IntKind.max, IntKind.signed, IntKind.bits] using h
theorem wfu64 {n : Int} (h : (Lit.int .u64 n).wf = true) : n = U64 (BitVec.ofInt 64 n) := by
  have : 0 ≤ n ∧ n ≤ 18446744073709551615 := by simpa [Lit.wf, IntKind.min, IntKind.max, IntKind.signed, IntKind.bits] using h
  exact U64_of this.1 (by omega)
theorem wfu32 {n : Int} (h : (Lit.int .u32 n).wf = true) : n = U32 (BitVec.ofInt 32 n) := by
  have : 0 ≤ n ∧ n ≤ 4294967295 := by simpa [Lit.wf, IntKind.min, IntKind.max, IntKind.signed, IntKind.bits] using h
  exact U32_of this.1 (by omega)
theorem wfu8 {n : Int} (h : (Lit.int .u8 n).wf = true) : n = U8 (BitVec.ofInt 8 n) := by
  have : 0 ≤ n ∧ n ≤ 255 := by simpa [Lit.wf, IntKind.min, IntKind.max, IntKind.signed, IntKind.bits] using h
  exact U8_of this.1 (by omega)
theorem wfi64 {n : Int} (h : (Lit.int .i64 n).wf = true) : n = I64 (BitVec.ofInt 64 n) := I64_of (wf64 h).1 (wf64 h).2
theorem open_bytes {H : Type} {enc : TypeId × Value → H} {P : Program} {W : World} {base : Nat} {sp : Nat → Bool} {hd : Bool} {r : Reach} {b0 : Nat} {t e : TypeId} {v : Value} {d : DataW H} {p : List MemPlace}
    (ht : P.underlying t = some (.slice e)) (he : P.underlying e = some (.int .u8)) (hc : P.cellsOf e = 1)
    (hv : Value.okWide P W r b0 t v) (h : DataW.Trod enc P W base sp hd t v d p) :
    ∃ (A : Option Addr) (bs : List (BitVec 8)) (c : Nat), v = .slice A bs.length c ∧ bs.length ≤ c ∧ c ≤ maxLen ∧ Rd b8 W W.heap.size A bs := by
  obtain ⟨a0, len, cap, rfl⟩ := okWide_slice ht hv
  obtain ⟨fuel, hf⟩ := h
  rcases open_ints ht he hc hf with ⟨hcs, _⟩ | ⟨x, l, c, zs, hcs, _, hl, hm, hz, _, hcell, hwz⟩
  · simp [Value.cells] at hcs
    obtain ⟨rfl, rfl, rfl⟩ := hcs
    exact ⟨none, [], 0, rfl, Nat.le_refl _, by simp [maxLen], Rd.nil⟩
  · simp [Value.cells] at hcs
    obtain ⟨rfl, rfl, rfl⟩ := hcs
    have hlen : len ≤ zs.length := by rw [hz]; split <;> omega
    refine ⟨some x, (zs.take len).map (BitVec.ofInt 8), cap, by simp; omega, by simp; omega, hm, fun j hj => ?_⟩
    have hj' : j < len := by simp at hj; omega
    have hc1 := hcell j (by omega)
    have hb := cell_lt hc1
    rw [add_block] at hb
    refine ⟨x, rfl, hb, ?_⟩
    rw [hc1]
    have hw := hwz (zs.getD j 0) (by rw [List.getD_eq_getElem?_getD, List.getElem?_eq_getElem (by omega)]; exact List.getElem_mem _)
    rw [wfu8 hw]
    have e : zs.getD j 0 = zs[j]'(by omega) := by rw [List.getD_eq_getElem?_getD, List.getElem?_eq_getElem (by omega)]; rfl
    rw [e]
    simp [b8]
end Go.Proofs.YtfodefgihicafaaDoor
/- What loamlaw14.known and loamlaw14.Of answer, and how a header that comes in is opened. No conditions. -/
namespace Go.Proofs.YtfodefgihicafaaDoor
set_option linter.unusedVariables false
set_option linter.unusedSimpArgs false
open Go.RowKit Go.Joins Go.WideShapes
theorem retp_as {P : Program} {f : FuncId} {args args' : Array Value} {w : World} {v v' : Value} (h : Calls P f args w (RetP v w)) (e1 : args = args') (e2 : v = v') : Calls P f args' w (RetP v' w) := e1 ▸ e2 ▸ h
theorem k_pack1 (w : World) : Calls Tryd.prog 59 #[.agg #[.int .i64 3, .int .i64 9, .bool false, .int .i64 0]] w (RetP (.tuple #[.int .u64 9223372036855365638, .int .i64 0]) w) := retp_as (pack_c 3 9 false 0 w) rfl (by kernel_rfl)
theorem k_pack2 (w : World) : Calls Tryd.prog 59 #[.agg #[.int .i64 0, .int .i64 0, .bool true, .int .i64 7]] w (RetP (.tuple #[.int .u64 9223372066919546881, .int .i64 0]) w) := retp_as (pack_c 0 0 true 7 w) rfl (by kernel_rfl)
theorem k_un1 (w : World) : Calls Tryd.prog 80 #[.int .u64 9223372036855365638] w (RetP (.tuple #[.agg #[.int .i64 3, .int .i64 9, .bool false, .int .i64 0], .int .i64 0]) w) := retp_as (unpack_c 9223372036855365638 w) (by kernel_rfl) (by kernel_rfl)
theorem k_un2 (w : World) : Calls Tryd.prog 80 #[.int .u64 0] w (RetP (.tuple #[.agg #[.int .i64 0, .int .i64 0, .bool false, .int .i64 0], .int .i64 2]) w) := retp_as (unpack_c 0 w) (by kernel_rfl) (by kernel_rfl)
theorem k_size (w : World) : Calls Tryd.prog 60 #[.agg #[.int .i64 3, .int .i64 9, .bool false, .int .i64 0]] w (RetP (.int .i64 6) w) := retp_as (size_c 3 9 false 0 w) rfl (by kernel_rfl)
theorem k_right1 (w : World) : Calls Tryd.prog 76 #[.agg #[.int .i64 3, .int .i64 9, .bool false, .int .i64 0]] w (RetP (.bool true) w) := retp_as (right_c 3 9 false 0 w) rfl (by kernel_rfl)
theorem k_right2 (w : World) : Calls Tryd.prog 76 #[.agg #[.int .i64 65, .int .i64 0, .bool false, .int .i64 0]] w (RetP (.bool false) w) := retp_as (right_c 65 0 false 0 w) rfl (by kernel_rfl)
set_option maxHeartbeats 800000
set_option maxRecDepth 100000
theorem open_head {H : Type} {enc : TypeId × Value → H} {W : World} {base : Nat} {v : Value} {d : DataW H} {q : List MemPlace}
    (hv : Value.okWide Tryd.prog W .any base 60 v) (h : DataW.Trod enc Tryd.prog W 0 (fun _ => true) true 60 v d q) :
    ∃ (p b : Int) (m : Bool) (t : Int), v = .agg #[.int .i64 p, .int .i64 b, .bool m, .int .i64 t] := by
  obtain ⟨c0, c1, c2, c3, y0, y1, y2, y3, n, rfl, _, _, h0, h1, h2, h3⟩ := open_agg4 Tryd.underlying60 (by kernel_rfl) (by kernel_rfl) hv h
  obtain ⟨p, e0, _, _⟩ := DataW.trod_int Tryd.underlying3 h0
  obtain ⟨b, e1, _, _⟩ := DataW.trod_int Tryd.underlying3 h1
  obtain ⟨m, e2, _⟩ := DataW.trod_bool Tryd.underlying4 h2
  obtain ⟨t, e3, _, _⟩ := DataW.trod_int Tryd.underlying3 h3
  simp at e0 e1 e2 e3
  subst e0 e1 e2 e3
  exact ⟨p, b, m, t, rfl⟩
end Go.Proofs.YtfodefgihicafaaDoor
/- A region that ends in an operation that waits for all others (a store): by facts for those, and then that one. No conditions. -/
namespace Go.Proofs.YtfodefgihicafaaDoor
set_option linter.unusedVariables false
set_option linter.unusedSimpArgs false
open Go.RowKit
section
variable {P : Program} {ops : Array Oper} {Q : Exit → Act → World → Prop} {G : World → World → Prop} {F : Nat → Value → World → Prop} {a0 : Act} {w0 : World}
def eldB (ops : Array Oper) (i : Nat) : Bool := match ops[i]? with
  | none => false
  | some o => o.after.all fun e => !Region.binds .any e || decide (e.on < i)
def ownB (ops : Array Oper) (m size i : Nat) : Bool := match dstOf ops i with
  | none => false
  | some d => decide (d < size) && (List.range m).all fun j => j == i || dstOf ops j != some d
/-- The checks of regB, of all but the last; that one waits for all. -/
def regTB (ops : Array Oper) (m size : Nat) : Bool :=
  ops.size == m + 1 && ((List.range m).all fun j => waitsB ops m j || (List.range m).any fun k => decide (j < k) && waitsB ops k j) && ((List.range (m + 1)).all fun i => eldB ops i) && (List.range m).all fun i => ownB ops m size i
theorem eldB_out {i : Nat} (h : eldB ops i = true) : ∃ o, ops[i]? = some o ∧ ∀ e ∈ o.after, Region.binds .any e = true → e.on < i := by
  unfold eldB at h
  cases ho : ops[i]? with
  | none => rw [ho] at h; cases h
  | some o =>
    rw [ho] at h
    refine ⟨o, rfl, fun e he hb => ?_⟩
    have := Array.all_eq_true_iff_forall_mem.1 h e he
    simpa [hb] using this
theorem ownB_out {m size i : Nat} (h : ownB ops m size i = true) : ∃ d, dstOf ops i = some d ∧ d < size ∧ ∀ j, j < m → j ≠ i → dstOf ops j ≠ some d := by
  unfold ownB at h
  cases hd : dstOf ops i with
  | none => rw [hd] at h; cases h
  | some d =>
    rw [hd] at h
    simp only [Bool.and_eq_true, decide_eq_true_eq, List.all_eq_true, List.mem_range, Bool.or_eq_true, beq_iff_eq, bne_iff_ne] at h
    refine ⟨d, rfl, h.1, fun j hj hne => ?_⟩
    rcases h.2 j hj with h | h
    · exact absurd h hne
    · exact h
theorem region_tail {id m : Nat} (hm : P.follows .mixedOrders = true) (hrefl : G w0 w0.drew) (htrans : ∀ a b c, G a b → G b c → G a c) (hmono : ∀ j, j < m → ∀ v a b, F j v a → G a b → F j v b)
    (hreg : regTB ops m a0.tmps.size = true) (howes : ∀ i, i < m → Owes P ops Q G F a0 w0 i)
    (fin : ∀ (vals : Nat → Value) (w : World), G w0 w → (∀ j, j < m → F j (vals j) w) → wpOp P ops Q m (fun a w => Q .normal a w) (putL ops vals (List.range m) a0) w) :
    (Code.region id ops true).wp P Q a0 w0 := by
  unfold regTB at hreg
  simp only [Bool.and_eq_true, beq_iff_eq, List.all_eq_true, List.mem_range] at hreg
  obtain ⟨⟨⟨hsize, hwaits⟩, held⟩, hown⟩ := hreg
  have getT : ∀ (l : Array Bool) (k : Nat) (b c : Bool), k < l.size → l.getD k b = l.getD k c := by
    intro l k b c hk
    rw [Array.getD_eq_getD_getElem?, Array.getD_eq_getD_getElem?, Array.getElem?_eq_getElem hk]; rfl
  have main : ∀ (fuel : Nat) (listed : Array Bool) (a : Act) (w : World), listed.size = ops.size → listed.getD m true = false →
      ((List.range ops.size).filter fun j => !listed.getD j true).length ≤ fuel →
      G w0 w → a.defers = a0.defers → a.tmps.size = a0.tmps.size →
      (∀ j, j < m → listed.getD j true = true → F j (valAt ops a j) w) →
      (∀ t, (∀ j, j < m → listed.getD j true = true → dstOf ops j ≠ some t) → a.tmps.getD t undef = a0.tmps.getD t undef) →
      (∀ j, j < m → listed.getD j true = true → ∀ k, waitsB ops j k = true → listed.getD k false = true) →
      wpAny P .any ops Q fuel listed a w := by
    intro fuel
    induction fuel with
    | zero =>
      intro listed a w hsz hun hcnt
      exfalso
      have : m ∈ (List.range ops.size).filter fun j => !listed.getD j true := List.mem_filter.2 ⟨List.mem_range.2 (by omega), by simp only [hun]; rfl⟩
      rw [List.eq_nil_of_length_eq_zero (Nat.le_zero.1 hcnt)] at this
      cases this
    | succ fuel ih =>
      intro listed a w hsz hun hcnt hG hd hs hF hR hC
      refine ⟨fun hr => ?_, fun i hi => ?_⟩
      · exfalso
        have up : ∀ j, j < m + 1 → listed.getD j true = true := by
          intro j
          induction j using Nat.strongRecOn with
          | ind j ihj =>
            intro hj
            cases hl : listed.getD j true with
            | true => rfl
            | false =>
              exfalso
              obtain ⟨o, ho, he⟩ := eldB_out (held j hj)
              have : j ∈ Region.ready .any ops listed := mem_ready.2 ⟨hl, o, ho, fun e hem hb => by
                have hlt := he e hem hb
                rw [getT _ _ false true (by omega)]
                exact ihj e.on hlt (by omega)⟩
              rw [hr] at this
              cases this
        rw [up m (by omega)] at hun
        cases hun
      · obtain ⟨hui, o, ho, hall⟩ := mem_ready.1 hi
        have hlt : i < ops.size := (Array.getElem?_eq_some_iff.1 ho).1
        have hlz : i < listed.size := by omega
        have hw : ∀ j, waitsB ops i j = true → j < ops.size ∧ listed.getD j true = true := by
          intro j hj
          obtain ⟨o', ho', e, he, hb, rfl⟩ := waits_some hj
          rw [ho] at ho'
          injection ho' with ho'
          subst ho'
          have h1 := hall e he hb
          rcases Nat.lt_or_ge e.on listed.size with hl | hl
          · refine ⟨by omega, ?_⟩
            rw [getT _ _ true false hl]
            exact h1
          · rw [Array.getD_eq_getD_getElem?, Array.getElem?_eq_none hl] at h1; cases h1
        have hset : ∀ j b, (listed.setIfInBounds i true).getD j b = if j = i then true else listed.getD j b := by
          intro j b
          rw [Array.getD_eq_getD_getElem?, Array.getD_eq_getD_getElem?, Array.getElem?_setIfInBounds]
          by_cases e : i = j
          · subst e; simp [hlz]
          · rw [if_neg e, if_neg (fun h => e h.symm)]
        by_cases him : i = m
        · subst him
          have hall2 : ∀ n j, j < i → i - j ≤ n → listed.getD j true = true := by
            intro n
            induction n with
            | zero => intro j hj hn; omega
            | succ n ihn =>
              intro j hj hn
              have h1 := hwaits j hj
              rw [Bool.or_eq_true] at h1
              rcases h1 with h1 | h1
              · exact (hw j h1).2
              · rw [List.any_eq_true] at h1
                obtain ⟨k, hk, hkj⟩ := h1
                rw [Bool.and_eq_true, decide_eq_true_eq] at hkj
                have hki := List.mem_range.1 hk
                rw [getT _ _ true false (by omega)]
                exact hC k hki (ihn k hki (by omega)) j hkj.2
          have hall' : ∀ j, j < i → listed.getD j true = true := fun j hj => hall2 (i - j) j hj (Nat.le_refl _)
          have h1 := fin (valAt ops a) w hG (fun j hj => hF j hj (hall' j hj))
          rw [putL_whole a (List.range i) a0 hs.symm hd.symm] at h1
          · refine wpOp_mono (fun a' w' hq => ?_) h1
            refine wpAny_done ?_ hq fuel
            apply List.eq_nil_iff_forall_not_mem.2
            intro j hj
            obtain ⟨h2, o2, ho2, _⟩ := mem_ready.1 hj
            have hj2 : j < ops.size := (Array.getElem?_eq_some_iff.1 ho2).1
            rw [hset] at h2
            by_cases e : j = i
            · rw [if_pos e] at h2; cases h2
            · rw [if_neg e, hall' j (by omega)] at h2; cases h2
          · intro t
            by_cases e : ∃ j, j < i ∧ dstOf ops j = some t
            · obtain ⟨j, hj, hjd⟩ := e
              exact .inr ⟨j, List.mem_range.2 hj, hjd⟩
            · left
              exact (hR t fun j hj _ he => e ⟨j, hj, he⟩).symm
        · have hi' : i < m := by omega
          obtain ⟨d, hdo, hdl, hdd⟩ := ownB_out (hown i hi')
          have hwm : ∀ j, waitsB ops i j = true → j < m := by
            intro j hj
            obtain ⟨o', ho', e, he, hb, rfl⟩ := waits_some hj
            obtain ⟨o2, ho2, he2⟩ := eldB_out (held i (by omega))
            rw [ho'] at ho2
            injection ho2 with ho2
            subst ho2
            have := he2 e he hb
            omega
          have hstep := howes i hi' a w hG hd hs (fun j hj => hF j (hwm j hj) (hw j hj).2) (fun t ht => hR t fun j hj hl he => by
            have h1 := hC j hj hl i (ht j he)
            rw [getT _ _ false true hlz, hui] at h1
            cases h1)
          refine wpOp_mono ?_ hstep
          rintro a' w' ⟨v, rfl, hg, hf⟩
          rw [hdo]
          refine ih (listed.setIfInBounds i true) (a.put (some d) v) w' (by simp [hsz]) (by rw [hset, if_neg (fun h => him h.symm)]; exact hun) ?_ (htrans _ _ _ hG hg) (by exact hd) (by rw [put_size, hs]) ?_ ?_ ?_
          · have := filter_less (p := fun j => !listed.getD j true) (q := fun j => !(listed.setIfInBounds i true).getD j true) (i := i) (l := List.range ops.size) (fun x hx => by
              rw [hset] at hx
              by_cases e : x = i
              · rw [if_pos e] at hx; cases hx
              · rw [if_neg e] at hx; exact hx) (List.mem_range.2 hlt) (by rw [hui]; rfl) (by rw [hset, if_pos rfl]; rfl)
            omega
          · intro j hj hl
            by_cases e : j = i
            · subst e
              unfold valAt
              rw [hdo]
              simp only
              rw [put_same _ _ _ (by rw [hs]; exact hdl)]
              exact hf
            · rw [hset, if_neg e] at hl
              have h1 := hmono j hj _ _ _ (hF j hj hl) hg
              have h2 : valAt ops (a.put (some d) v) j = valAt ops a j := by
                unfold valAt
                have hne := hdd j hj e
                cases hjd : dstOf ops j with
                | none => rfl
                | some dj =>
                  simp only
                  exact put_other _ _ _ _ (fun h => hne (by rw [hjd]; exact h.symm))
              rw [h2]
              exact h1
          · intro t ht
            have h1 : some d ≠ some t := fun h => ht i hi' (by rw [hset, if_pos rfl]) (by rw [hdo]; exact h)
            rw [put_other _ _ _ _ h1]
            exact hR t fun j hj hl => ht j hj (by rw [hset]; split <;> simp_all)
          · intro j hj hl k hk
            rw [hset]
            by_cases e : k = i
            · rw [if_pos e]
            · rw [if_neg e]
              by_cases e2 : j = i
              · subst e2
                have h1 := hw k hk
                rw [getT _ _ false true (by omega)]
                exact h1.2
              · rw [hset, if_neg e2] at hl
                exact hC j hj hl k hk
  refine wp_region_any hm ?_
  refine main ops.size (Array.replicate ops.size false) a0 w0.drew (by simp) ?_ ?_ hrefl rfl rfl ?_ ?_ ?_
  · rw [Array.getD_eq_getD_getElem?, Array.getElem?_eq_getElem (by simp; omega)]
    simp
  · exact Nat.le_trans (List.length_filter_le _ _) (by simp)
  · intro j hj hl
    rw [Array.getD_eq_getD_getElem?, Array.getElem?_eq_getElem (by simp; omega)] at hl
    simp at hl
  · intro t _; rfl
  · intro j hj hl
    rw [Array.getD_eq_getD_getElem?, Array.getElem?_eq_getElem (by simp; omega)] at hl
    simp at hl
/-- The last operation, by what it does alone. -/
theorem last_list {m : Nat} {d : Option Tmp} {op : Op} {type : TypeId} {a : Act} {w : World} (ho : (ops[m]?).map (fun o => (o.op, o.type)) = some (op, type)) (hdo : (ops[m]?).map (·.dst) = some d) (hg : (ops[m]?).bind (·.guard) = none)
    (h : wpList P #[{ dst := d, op, type, pos := "", after := #[], guard := none }] Q [{ dst := d, op, type, pos := "", after := #[], guard := none }] a w) : wpOp P ops Q m (fun a w => Q .normal a w) a w := by
  cases hi : ops[m]? with
  | none => rw [hi] at ho; cases ho
  | some o =>
    rw [hi] at ho hdo hg
    obtain ⟨dst, op', type', pos, after, guard⟩ := o
    simp only [Option.map_some, Option.some.injEq, Prod.mk.injEq] at ho hdo
    obtain ⟨rfl, rfl⟩ := ho
    subst hdo
    simp only [Option.bind_some] at hg
    subst hg
    unfold wpOp
    rw [hi]
    unfold wpList at h
    simp only [Region.wanted, if_true] at h ⊢
    have he : execOp a.eval { dst, op := op', type := type', pos, after, guard := none } = execOp a.eval { dst, op := op', type := type', pos := "", after := #[], guard := none } := by
      cases op' <;> rfl
    rcases h with h | ⟨h1, h2⟩
    · left
      unfold Oper.wp at h ⊢
      rw [he]
      exact h
    · right
      refine ⟨?_, h2⟩
      unfold Oper.asks at h1 ⊢
      rw [he]
      exact h1
/-- region_tail, by lists. -/
theorem region_by_tail {id m : Nat} (Fs : List (Value → World → Prop)) (ds : List Tmp)
    (hm : P.follows .mixedOrders = true) (hrefl : G w0 w0.drew) (htrans : ∀ a b c, G a b → G b c → G a c)
    (hreg : regTB ops m a0.tmps.size = true) (hds : (List.range' 0 m).map (dstOf ops) = ds.map some)
    (hmono : ∀ f ∈ Fs, ∀ v a b, f v a → G a b → f v b)
    (howes : AllN (Owes P ops Q G (fun j => Fs.getD j fun _ _ => True) a0 w0) m 0)
    (fin : ∀ (vals : Nat → Value) (w : World), G w0 w → (∀ j, j < m → (Fs.getD j fun _ _ => True) (vals j) w) → wpOp P ops Q m (fun a w => Q .normal a w) (putD vals ds 0 a0) w) :
    (Code.region id ops true).wp P Q a0 w0 := by
  refine region_tail (m := m) hm hrefl htrans ?_ hreg (fun i hi => howes.at_ _ _ i (by omega) (by omega)) ?_
  · intro j _ v a b h g
    rw [List.getD_eq_getElem?_getD] at h ⊢
    cases hj : Fs[j]? with
    | none => rw [hj] at h; exact trivial
    | some f => rw [hj] at h; exact hmono f (List.mem_of_getElem? hj) v a b h g
  · intro vals w hG hF
    rw [List.range_eq_range', putD_eq vals ds m 0 a0 hds]
    exact fin vals w hG hF
end
end Go.Proofs.YtfodefgihicafaaDoor
/- space: bare, New, Used, Free, zero. Conditions: lengths. -/
namespace Go.Proofs.YtfodefgihicafaaDoor
set_option linter.unusedVariables false
set_option linter.unusedSimpArgs false
open Go.RowKit
/-- Block s holds a space of the words ws, from b to t to e. -/
structure SpAt (W : World) (B s g : Nat) (v : Value) (ws : List (BitVec 64)) (b t e : Nat) : Prop where
  mem : MemAt W B g v ws
  blk : Bk W s 65 #[.pointer (some ⟨g, 0, none⟩), .int .i64 b, .int .i64 t, .int .i64 e]
  sg : s ≠ g
  sv : v.ownBlock ≠ some s
  hs : B ≤ s
  bt : b ≤ t
  te : t ≤ e
  el : e ≤ ws.length
section
variable {W W' : World} {B s g : Nat} {v : Value} {ws ws' : List (BitVec 64)} {b t e : Nat}
theorem SpAt.below (p : SpAt W B s g v ws b t e) (hb : Below W.heap.size W W') : SpAt W' B s g v ws b t e := ⟨p.mem.below hb, p.blk.below hb p.blk.lt, p.sg, p.sv, p.hs, p.bt, p.te, p.el⟩
theorem SpAt.memTo (p : SpAt W B s g v ws b t e) (m : MemAt W' B g v ws') (hg : W.grownBy W' v.ownBlock) (hl : ws'.length = ws.length) : SpAt W' B s g v ws' b t e :=
  ⟨m, (hg.block s p.blk.lt (fun e => p.sv e.symm)).trans p.blk, p.sg, p.sv, p.hs, p.bt, p.te, by rw [hl]; exact p.el⟩
theorem SpAt.four (p : SpAt W B s g v ws b t e) : W.cell? ⟨s, 0, none⟩ = some (.pointer (some ⟨g, 0, none⟩)) ∧ W.cell? ⟨s, 1, none⟩ = some (.int .i64 b) ∧ W.cell? ⟨s, 2, none⟩ = some (.int .i64 t) ∧ W.cell? ⟨s, 3, none⟩ = some (.int .i64 e) :=
  ⟨p.blk.cell 0, p.blk.cell 1, p.blk.cell 2, p.blk.cell 3⟩
end
/-- Of the old blocks only s and the row may have changed. -/
structure Two (w w' : World) (s : Nat) (row : Option Nat) : Prop where
  os : w'.os = w.os
  tape : w'.tape = w.tape
  output : w'.output = w.output
  size : w.heap.size ≤ w'.heap.size
  block : ∀ k, k < w.heap.size → k ≠ s → some k ≠ row → w'.heap[k]? = w.heap[k]?
theorem Two.trans {a b c : World} {s : Nat} {row : Option Nat} (h : Two a b s row) (k : Two b c s row) : Two a c s row :=
  ⟨k.os.trans h.os, k.tape.trans h.tape, k.output.trans h.output, Nat.le_trans h.size k.size, fun i hi h1 h2 => (k.block i (Nat.lt_of_lt_of_le hi h.size) h1 h2).trans (h.block i hi h1 h2)⟩
theorem Two.below {a b : World} {s : Nat} {row : Option Nat} (h : Below a.heap.size a b) : Two a b s row := ⟨h.os, h.tape, h.output, h.size, fun k hk _ _ => h.block k hk⟩
theorem Two.grown {a b : World} {s : Nat} {row : Option Nat} (h : a.grownBy b row) : Two a b s row := ⟨h.os, h.tape, h.output, h.size, fun k hk _ h2 => h.block k hk h2⟩
theorem Two.setc (a : World) (s i : Nat) (u : Value) (row : Option Nat) : Two a (a.setCell ⟨s, i, none⟩ u) s row := ⟨rfl, rfl, rfl, by simp [World.setCell], fun k _ hne _ => Below.heap_setCell _ _ _ _ hne⟩
set_option maxHeartbeats 400000
set_option maxRecDepth 100000
theorem bare_in (w : World) (B g : Nat) (v : Value) (ws : List (BitVec 64)) (b t e : Nat) (h : MemAt w B g v ws) (hbt : b ≤ t) (hte : t ≤ e) (hel : e ≤ ws.length) (hl : ws.length ≤ 100000) :
    Calls Tryd.prog 58 #[.pointer (some ⟨g, 0, none⟩), .int .i64 b, .int .i64 t, .int .i64 e] w fun r w' => ∃ s, r = .returned (.tuple #[.pointer (some ⟨s, 0, none⟩), .int .i64 0]) ∧ SpAt w' B s g v ws b t e ∧ Below w.heap.size w w' := by
  have HL := Lib.hid (len_c w B g v ws h)
  have HM := Lib.hid h
  obtain ⟨N, hN⟩ : ∃ N, N = ws.length := ⟨_, rfl⟩
  rw [← hN] at HL
  have u1 : ¬ (b : Int) < 0 := by omega
  have u2 : ¬ t < b := by omega
  have u3 : ¬ e < t := by omega
  have u4 : ¬ N < e := by omega
  have HX := Lib.hid (And.intro hbt (And.intro hte hel))
  clear h hbt hte hel hl hN
  go_enter Tryd.func58, Tryd.ntmps58
  go_wp2_with fail
  refine Calls.mono HL.out ?_
  rintro r w1 ⟨rfl, rfl⟩
  go_wp2_with fail
  go_ret2
  have hm := HM.out
  have hb := Gw.alloc w1 (.cells #[.pointer (some ⟨g, 0, none⟩), .int .i64 b, .int .i64 t, .int .i64 e] 65)
  refine ⟨w1.heap.size, rfl, ⟨hm.below hb, Bk.new w1 _ _, ?_, fun e => ?_, hm.le, HX.out.1, HX.out.2.1, HX.out.2.2⟩, hb⟩
  · have := hm.blk.lt; omega
  · have := (hm.row.lt _ e).2; omega
theorem bare_out (w : World) (B g : Nat) (v : Value) (ws : List (BitVec 64)) (b t e : Int) (h : MemAt w B g v ws) (ho : b < 0 ∨ (¬ b < 0 ∧ t < b) ∨ (¬ b < 0 ∧ ¬ t < b ∧ e < t) ∨ (¬ b < 0 ∧ ¬ t < b ∧ ¬ e < t ∧ (ws.length : Int) < e)) :
    Calls Tryd.prog 58 #[.pointer (some ⟨g, 0, none⟩), .int .i64 b, .int .i64 t, .int .i64 e] w fun r w' => r = .returned (.tuple #[.pointer none, .int .i64 1]) ∧ w' = w := by
  have HL := Lib.hid (len_c w B g v ws h)
  obtain ⟨N, hN⟩ : ∃ N, N = ws.length := ⟨_, rfl⟩
  rw [← hN] at HL ho
  clear h hN
  rcases ho with h1 | ⟨h1, h2⟩ | ⟨h1, h2, h3⟩ | ⟨h1, h2, h3, h4⟩
  · go_enter Tryd.func58, Tryd.ntmps58
    go_wp2_with fail
    go_ret2
    exact ⟨rfl, rfl⟩
  · go_enter Tryd.func58, Tryd.ntmps58
    go_wp2_with fail
    go_ret2
    exact ⟨rfl, rfl⟩
  · go_enter Tryd.func58, Tryd.ntmps58
    go_wp2_with fail
    go_ret2
    exact ⟨rfl, rfl⟩
  · go_enter Tryd.func58, Tryd.ntmps58
    go_wp2_with fail
    refine Calls.mono HL.out ?_
    rintro r w1 ⟨rfl, rfl⟩
    go_wp2_with fail
    go_ret2
    exact ⟨rfl, rfl⟩
theorem bare_nil (w : World) (b t e : Int) : Calls Tryd.prog 58 #[.pointer none, .int .i64 b, .int .i64 t, .int .i64 e] w fun r w' => r = .returned (.tuple #[.pointer none, .int .i64 1]) ∧ w' = w := by
  go_enter Tryd.func58, Tryd.ntmps58
  go_wp2_with fail
  go_ret2
  exact ⟨rfl, rfl⟩
theorem snew_in (w : World) (B g : Nat) (v : Value) (ws : List (BitVec 64)) (b e : Nat) (h : MemAt w B g v ws) (hbe : b ≤ e) (hel : e ≤ ws.length) (hl : ws.length ≤ 100000) :
    Calls Tryd.prog 23 #[.pointer (some ⟨g, 0, none⟩), .int .i64 b, .int .i64 e] w fun r w' => ∃ s, r = .returned (.tuple #[.pointer (some ⟨s, 0, none⟩), .int .i64 0]) ∧ SpAt w' B s g v ws b b e ∧ Below w.heap.size w w' := by
  have HB := Lib.hid (bare_in w B g v ws b b e h (Nat.le_refl _) hbe hel hl)
  clear h hbe hel hl
  go_enter Tryd.func23, Tryd.ntmps23
  go_wp2_with fail
  refine Calls.mono HB.out ?_
  rintro r w1 ⟨s, rfl, h1, b1⟩
  go_wp2_with fail
  go_ret2
  exact ⟨s, rfl, h1, b1⟩
theorem snew_out (w : World) (m : Value) (b e : Int) (hb : Calls Tryd.prog 58 #[m, .int .i64 b, .int .i64 b, .int .i64 e] w fun r w' => r = .returned (.tuple #[.pointer none, .int .i64 1]) ∧ w' = w) :
    Calls Tryd.prog 23 #[m, .int .i64 b, .int .i64 e] w fun r w' => r = .returned (.tuple #[.pointer none, .int .i64 1]) ∧ w' = w := by
  have HB := Lib.hid hb
  clear hb
  go_enter Tryd.func23, Tryd.ntmps23
  go_wp2_with fail
  refine Calls.mono HB.out ?_
  rintro r w1 ⟨rfl, rfl⟩
  go_wp2_with fail
  go_ret2
  exact ⟨rfl, rfl⟩
theorem free_r (Q : Exit → Act → World → Prop) (a0 : Act) (w : World) (s x y n : Nat) (hs : s < w.heap.size) (c1 : w.cell? ⟨s, 3, none⟩ = some (.int .i64 x)) (c2 : w.cell? ⟨s, 2, none⟩ = some (.int .i64 y)) (d1 : (x : Int) - (y : Int) = (n : Int)) (d2 : (n : Int) ≤ 100000) (d3 : (0 : Int) ≤ (n : Int)) (hsz : a0.tmps.size = 12) (sl0 : a0.tmps.getD 0 undef = .pointer (some ⟨s, 0, none⟩))
    (fin : ∀ (vals : Nat → Value) (w1 : World), Below w.heap.size w w1 → (IsV (.int .i64 n)) (vals 9) w1 → Q .normal (putD vals [3, 4, 5, 6, 7, 8, 9, 10, 11, 2] 0 a0) w1) :
    (Code.region 1 (regIn Tryd.f41 1) true).wp Tryd.prog Q a0 w := by
  refine region_by (G := fun w w1 => Below w.heap.size w w1) [IsV (.pointer (some ⟨s, 0, none⟩)),
    IsV (.pointer (some ⟨s, 0, none⟩)),
    IsV (.pointer (some ⟨s, 3, none⟩)),
    IsV (.int .i64 x),
    IsV (.pointer (some ⟨s, 0, none⟩)),
    IsV (.pointer (some ⟨s, 0, none⟩)),
    IsV (.pointer (some ⟨s, 2, none⟩)),
    IsV (.int .i64 y),
    IsV (.int .i64 n),
    IsV (.int .i64 n)]
    [3, 4, 5, 6, 7, 8, 9, 10, 11, 2] (by kernel_rfl) (Gw.drew _) Gw.trans (by rw [hsz]; kernel_rfl) (by kernel_rfl) ?_ ?_ ?_
  · intro f hf
    simp only [List.mem_cons, List.not_mem_nil, or_false] at hf
    rcases hf with rfl | rfl | rfl | rfl | rfl | rfl | rfl | rfl | rfl | rfl <;> intro v a b h g <;> first | exact IsV.mono h
  · refine ⟨?_, ?_, ?_, ?_, ?_, ?_, ?_, ?_, ?_, ?_, trivial⟩
    · exact owes_mv 0 (by kernel_rfl) (by kernel_rfl) (by kernel_rfl) sl0 (fun _ => rfl)
    · refine owes_v (Go.Op.nilCheck (Go.Operand.tmp 3)) 0 [0] (by kernel_rfl) (by kernel_rfl) (by kernel_rfl) rfl fun vals w1 ρ hG hF hρ hcst hfun => ?_
      have e3 : ρ (.tmp 3) = .pointer (some ⟨s, 0, none⟩) := ((hρ 3).trans (slotJ [0] (by rw [hsz]; decide) (by kernel_rfl))).trans (hF 0 (by decide))
      clear hρ hF hcst hfun sl0 fin
      exact opv_val (by go_simp <;> rfl) ⟨gw_self _, rfl⟩
    · refine owes_v (Go.Op.fieldAddr 65 (Go.Operand.tmp 4) 3) 0 [1] (by kernel_rfl) (by kernel_rfl) (by kernel_rfl) rfl fun vals w1 ρ hG hF hρ hcst hfun => ?_
      have e4 : ρ (.tmp 4) = .pointer (some ⟨s, 0, none⟩) := ((hρ 4).trans (slotJ [1] (by rw [hsz]; decide) (by kernel_rfl))).trans (hF 1 (by decide))
      clear hρ hF hcst hfun sl0 fin
      exact opv_val (by go_simp <;> rfl) ⟨gw_self _, rfl⟩
    · refine owes_v (Go.Op.load 3 (Go.Operand.tmp 5)) 3 [2] (by kernel_rfl) (by kernel_rfl) (by kernel_rfl) rfl fun vals w1 ρ hG hF hρ hcst hfun => ?_
      have e5 : ρ (.tmp 5) = .pointer (some ⟨s, 3, none⟩) := ((hρ 5).trans (slotJ [2] (by rw [hsz]; decide) (by kernel_rfl))).trans (hF 2 (by decide))
      have k := (hG.cell (p := ⟨s, 3, none⟩) hs).trans c1
      clear hρ hF hcst hfun sl0 fin
      exact opv_val (by go_simp <;> rfl) ⟨gw_self _, rfl⟩
    · exact owes_mv 0 (by kernel_rfl) (by kernel_rfl) (by kernel_rfl) sl0 (fun _ => rfl)
    · refine owes_v (Go.Op.nilCheck (Go.Operand.tmp 7)) 0 [4] (by kernel_rfl) (by kernel_rfl) (by kernel_rfl) rfl fun vals w1 ρ hG hF hρ hcst hfun => ?_
      have e7 : ρ (.tmp 7) = .pointer (some ⟨s, 0, none⟩) := ((hρ 7).trans (slotJ [4] (by rw [hsz]; decide) (by kernel_rfl))).trans (hF 4 (by decide))
      clear hρ hF hcst hfun sl0 fin
      exact opv_val (by go_simp <;> rfl) ⟨gw_self _, rfl⟩
    · refine owes_v (Go.Op.fieldAddr 65 (Go.Operand.tmp 8) 2) 0 [5] (by kernel_rfl) (by kernel_rfl) (by kernel_rfl) rfl fun vals w1 ρ hG hF hρ hcst hfun => ?_
      have e8 : ρ (.tmp 8) = .pointer (some ⟨s, 0, none⟩) := ((hρ 8).trans (slotJ [5] (by rw [hsz]; decide) (by kernel_rfl))).trans (hF 5 (by decide))
      clear hρ hF hcst hfun sl0 fin
      exact opv_val (by go_simp <;> rfl) ⟨gw_self _, rfl⟩
    · refine owes_v (Go.Op.load 3 (Go.Operand.tmp 9)) 3 [6] (by kernel_rfl) (by kernel_rfl) (by kernel_rfl) rfl fun vals w1 ρ hG hF hρ hcst hfun => ?_
      have e9 : ρ (.tmp 9) = .pointer (some ⟨s, 2, none⟩) := ((hρ 9).trans (slotJ [6] (by rw [hsz]; decide) (by kernel_rfl))).trans (hF 6 (by decide))
      have k := (hG.cell (p := ⟨s, 2, none⟩) hs).trans c2
      clear hρ hF hcst hfun sl0 fin
      exact opv_val (by go_simp <;> rfl) ⟨gw_self _, rfl⟩
    · refine owes_v (Go.Op.binOp Go.BinOp.sub 3 (Go.Operand.tmp 6) (Go.Operand.tmp 10) 3) 3 [3, 7] (by kernel_rfl) (by kernel_rfl) (by kernel_rfl) rfl fun vals w1 ρ hG hF hρ hcst hfun => ?_
      have e6 : ρ (.tmp 6) = .int .i64 x := ((hρ 6).trans (slotJ [3, 7] (by rw [hsz]; decide) (by kernel_rfl))).trans (hF 3 (by decide))
      have e10 : ρ (.tmp 10) = .int .i64 y := ((hρ 10).trans (slotJ [3, 7] (by rw [hsz]; decide) (by kernel_rfl))).trans (hF 7 (by decide))
      have kw0 : IntKind.i64.wrap ((n : Int)) = (n : Int) := wrapIn (by omega) (by omega)
      clear hρ hF hcst hfun sl0 fin
      exact opv_val (by go_simp <;> rfl) ⟨gw_self _, rfl⟩
    · exact owes_mvj 8 11 (by kernel_rfl) (by kernel_rfl) (by kernel_rfl) (by kernel_rfl) (by rw [hsz]; decide) (fun v w h => h)
  · intro vals w1 hG hF
    exact fin vals w1 hG (hF 9 (by decide +kernel))
theorem free_c (w : World) (B s g : Nat) (v : Value) (ws : List (BitVec 64)) (b t e : Nat) (p : SpAt w B s g v ws b t e) (hl : ws.length ≤ 100000) :
    Calls Tryd.prog 41 #[.pointer (some ⟨s, 0, none⟩)] w fun r w' => r = .returned (.int .i64 ((e - t : Nat) : Int)) ∧ Below w.heap.size w w' := by
  obtain ⟨c0, c1, c2, c3⟩ := p.four
  have HLT := p.blk.lt
  obtain ⟨n, hn⟩ : ∃ n, n = e - t := ⟨_, rfl⟩
  have d1 : (e : Int) - (t : Int) = (n : Int) := by have := p.te; omega
  have d2 : (n : Int) ≤ 100000 := by have := p.el; omega
  have d3 : (0 : Int) ≤ (n : Int) := by omega
  rw [← hn]
  clear p hn hl
  go_enter Tryd.func41, Tryd.ntmps41
  go_wp2_with fail
  refine free_r _ _ _ s e t n HLT c3 c2 d1 d2 d3 rfl rfl ?_
  intro vals w1 hG h1
  unfold IsV at h1
  simp only [putD, Act.put, List.setIfInBounds_toArray, List.set_cons_zero, List.set_cons_succ, h1]
  clear h1
  go_wp2_with fail
  go_ret
  exact ⟨rfl, hG⟩
theorem used_r (Q : Exit → Act → World → Prop) (a0 : Act) (w : World) (s x y n : Nat) (hs : s < w.heap.size) (c1 : w.cell? ⟨s, 2, none⟩ = some (.int .i64 x)) (c2 : w.cell? ⟨s, 1, none⟩ = some (.int .i64 y)) (d1 : (x : Int) - (y : Int) = (n : Int)) (d2 : (n : Int) ≤ 100000) (d3 : (0 : Int) ≤ (n : Int)) (hsz : a0.tmps.size = 12) (sl0 : a0.tmps.getD 0 undef = .pointer (some ⟨s, 0, none⟩))
    (fin : ∀ (vals : Nat → Value) (w1 : World), Below w.heap.size w w1 → (IsV (.int .i64 n)) (vals 9) w1 → Q .normal (putD vals [3, 4, 5, 6, 7, 8, 9, 10, 11, 2] 0 a0) w1) :
    (Code.region 1 (regIn Tryd.f40 1) true).wp Tryd.prog Q a0 w := by
  refine region_by (G := fun w w1 => Below w.heap.size w w1) [IsV (.pointer (some ⟨s, 0, none⟩)),
    IsV (.pointer (some ⟨s, 0, none⟩)),
    IsV (.pointer (some ⟨s, 2, none⟩)),
    IsV (.int .i64 x),
    IsV (.pointer (some ⟨s, 0, none⟩)),
    IsV (.pointer (some ⟨s, 0, none⟩)),
    IsV (.pointer (some ⟨s, 1, none⟩)),
    IsV (.int .i64 y),
    IsV (.int .i64 n),
    IsV (.int .i64 n)]
    [3, 4, 5, 6, 7, 8, 9, 10, 11, 2] (by kernel_rfl) (Gw.drew _) Gw.trans (by rw [hsz]; kernel_rfl) (by kernel_rfl) ?_ ?_ ?_
  · intro f hf
    simp only [List.mem_cons, List.not_mem_nil, or_false] at hf
    rcases hf with rfl | rfl | rfl | rfl | rfl | rfl | rfl | rfl | rfl | rfl <;> intro v a b h g <;> first | exact IsV.mono h
  · refine ⟨?_, ?_, ?_, ?_, ?_, ?_, ?_, ?_, ?_, ?_, trivial⟩
    · exact owes_mv 0 (by kernel_rfl) (by kernel_rfl) (by kernel_rfl) sl0 (fun _ => rfl)
    · refine owes_v (Go.Op.nilCheck (Go.Operand.tmp 3)) 0 [0] (by kernel_rfl) (by kernel_rfl) (by kernel_rfl) rfl fun vals w1 ρ hG hF hρ hcst hfun => ?_
      have e3 : ρ (.tmp 3) = .pointer (some ⟨s, 0, none⟩) := ((hρ 3).trans (slotJ [0] (by rw [hsz]; decide) (by kernel_rfl))).trans (hF 0 (by decide))
      clear hρ hF hcst hfun sl0 fin
      exact opv_val (by go_simp <;> rfl) ⟨gw_self _, rfl⟩
    · refine owes_v (Go.Op.fieldAddr 65 (Go.Operand.tmp 4) 2) 0 [1] (by kernel_rfl) (by kernel_rfl) (by kernel_rfl) rfl fun vals w1 ρ hG hF hρ hcst hfun => ?_
      have e4 : ρ (.tmp 4) = .pointer (some ⟨s, 0, none⟩) := ((hρ 4).trans (slotJ [1] (by rw [hsz]; decide) (by kernel_rfl))).trans (hF 1 (by decide))
      clear hρ hF hcst hfun sl0 fin
      exact opv_val (by go_simp <;> rfl) ⟨gw_self _, rfl⟩
    · refine owes_v (Go.Op.load 3 (Go.Operand.tmp 5)) 3 [2] (by kernel_rfl) (by kernel_rfl) (by kernel_rfl) rfl fun vals w1 ρ hG hF hρ hcst hfun => ?_
      have e5 : ρ (.tmp 5) = .pointer (some ⟨s, 2, none⟩) := ((hρ 5).trans (slotJ [2] (by rw [hsz]; decide) (by kernel_rfl))).trans (hF 2 (by decide))
      have k := (hG.cell (p := ⟨s, 2, none⟩) hs).trans c1
      clear hρ hF hcst hfun sl0 fin
      exact opv_val (by go_simp <;> rfl) ⟨gw_self _, rfl⟩
    · exact owes_mv 0 (by kernel_rfl) (by kernel_rfl) (by kernel_rfl) sl0 (fun _ => rfl)
    · refine owes_v (Go.Op.nilCheck (Go.Operand.tmp 7)) 0 [4] (by kernel_rfl) (by kernel_rfl) (by kernel_rfl) rfl fun vals w1 ρ hG hF hρ hcst hfun => ?_
      have e7 : ρ (.tmp 7) = .pointer (some ⟨s, 0, none⟩) := ((hρ 7).trans (slotJ [4] (by rw [hsz]; decide) (by kernel_rfl))).trans (hF 4 (by decide))
      clear hρ hF hcst hfun sl0 fin
      exact opv_val (by go_simp <;> rfl) ⟨gw_self _, rfl⟩
    · refine owes_v (Go.Op.fieldAddr 65 (Go.Operand.tmp 8) 1) 0 [5] (by kernel_rfl) (by kernel_rfl) (by kernel_rfl) rfl fun vals w1 ρ hG hF hρ hcst hfun => ?_
      have e8 : ρ (.tmp 8) = .pointer (some ⟨s, 0, none⟩) := ((hρ 8).trans (slotJ [5] (by rw [hsz]; decide) (by kernel_rfl))).trans (hF 5 (by decide))
      clear hρ hF hcst hfun sl0 fin
      exact opv_val (by go_simp <;> rfl) ⟨gw_self _, rfl⟩
    · refine owes_v (Go.Op.load 3 (Go.Operand.tmp 9)) 3 [6] (by kernel_rfl) (by kernel_rfl) (by kernel_rfl) rfl fun vals w1 ρ hG hF hρ hcst hfun => ?_
      have e9 : ρ (.tmp 9) = .pointer (some ⟨s, 1, none⟩) := ((hρ 9).trans (slotJ [6] (by rw [hsz]; decide) (by kernel_rfl))).trans (hF 6 (by decide))
      have k := (hG.cell (p := ⟨s, 1, none⟩) hs).trans c2
      clear hρ hF hcst hfun sl0 fin
      exact opv_val (by go_simp <;> rfl) ⟨gw_self _, rfl⟩
    · refine owes_v (Go.Op.binOp Go.BinOp.sub 3 (Go.Operand.tmp 6) (Go.Operand.tmp 10) 3) 3 [3, 7] (by kernel_rfl) (by kernel_rfl) (by kernel_rfl) rfl fun vals w1 ρ hG hF hρ hcst hfun => ?_
      have e6 : ρ (.tmp 6) = .int .i64 x := ((hρ 6).trans (slotJ [3, 7] (by rw [hsz]; decide) (by kernel_rfl))).trans (hF 3 (by decide))
      have e10 : ρ (.tmp 10) = .int .i64 y := ((hρ 10).trans (slotJ [3, 7] (by rw [hsz]; decide) (by kernel_rfl))).trans (hF 7 (by decide))
      have kw0 : IntKind.i64.wrap ((n : Int)) = (n : Int) := wrapIn (by omega) (by omega)
      clear hρ hF hcst hfun sl0 fin
      exact opv_val (by go_simp <;> rfl) ⟨gw_self _, rfl⟩
    · exact owes_mvj 8 11 (by kernel_rfl) (by kernel_rfl) (by kernel_rfl) (by kernel_rfl) (by rw [hsz]; decide) (fun v w h => h)
  · intro vals w1 hG hF
    exact fin vals w1 hG (hF 9 (by decide +kernel))
theorem used_c (w : World) (B s g : Nat) (v : Value) (ws : List (BitVec 64)) (b t e : Nat) (p : SpAt w B s g v ws b t e) (hl : ws.length ≤ 100000) :
    Calls Tryd.prog 40 #[.pointer (some ⟨s, 0, none⟩)] w fun r w' => r = .returned (.int .i64 ((t - b : Nat) : Int)) ∧ Below w.heap.size w w' := by
  obtain ⟨c0, c1, c2, c3⟩ := p.four
  have HLT := p.blk.lt
  obtain ⟨n, hn⟩ : ∃ n, n = t - b := ⟨_, rfl⟩
  have d1 : (t : Int) - (b : Int) = (n : Int) := by have := p.bt; omega
  have d2 : (n : Int) ≤ 100000 := by have := p.el; have := p.te; omega
  have d3 : (0 : Int) ≤ (n : Int) := by omega
  rw [← hn]
  clear p hn hl
  go_enter Tryd.func40, Tryd.ntmps40
  go_wp2_with fail
  refine used_r _ _ _ s t b n HLT c2 c1 d1 d2 d3 rfl rfl ?_
  intro vals w1 hG h1
  unfold IsV at h1
  simp only [putD, Act.put, List.setIfInBounds_toArray, List.set_cons_zero, List.set_cons_succ, h1]
  clear h1
  go_wp2_with fail
  go_ret
  exact ⟨rfl, hG⟩
/-- k words from a on made 0. -/
def zeroW (ws : List (BitVec 64)) (a : Nat) : Nat → List (BitVec 64)
  | 0 => ws
  | k + 1 => (zeroW ws a k).set (a + k) 0#64
theorem zeroW_len (ws : List (BitVec 64)) (a k : Nat) : (zeroW ws a k).length = ws.length := by
  induction k with
  | zero => rfl
  | succ k ih => show (List.set _ _ _).length = _; rw [List.length_set, ih]
theorem zeroW_get (ws : List (BitVec 64)) (a i : Nat) : ∀ k, a + k ≤ ws.length → (zeroW ws a k)[i]? = if a ≤ i ∧ i < a + k then some 0#64 else ws[i]?
  | 0, _ => by
    rw [if_neg (by omega)]; rfl
  | k + 1, h => by
    show ((zeroW ws a k).set (a + k) 0#64)[i]? = _
    rw [List.getElem?_set, zeroW_get ws a i k (by omega)]
    by_cases e : a + k = i
    · subst e
      rw [if_pos rfl, if_pos (by rw [zeroW_len]; omega), if_pos (by omega)]
    · rw [if_neg e]
      by_cases c : a ≤ i ∧ i < a + k
      · rw [if_pos c, if_pos (by omega)]
      · rw [if_neg c, if_neg (by omega)]
theorem zero_c (w : World) (B s g : Nat) (v : Value) (ws : List (BitVec 64)) (b t e a z : Nat) (p : SpAt w B s g v ws b t e) (ha : a ≤ z) (hz : z ≤ ws.length) (hl : ws.length ≤ 100000) :
    Calls Tryd.prog 61 #[.pointer (some ⟨s, 0, none⟩), .int .i64 a, .int .i64 z] w fun r w' => r = .returned (.tuple #[]) ∧ SpAt w' B s g v (zeroW ws a (z - a)) b t e ∧ w.grownBy w' v.ownBlock := by
  have HP := Lib.hid p
  obtain ⟨N, hN⟩ : ∃ N, N = ws.length := ⟨_, rfl⟩
  have HLen := Lib.hid (fun W ws' (h : MemAt W B g v ws') (hl' : ws'.length = N) => show Calls Tryd.prog 64 #[.pointer (some ⟨g, 0, none⟩)] W fun e w' => e = .returned (.int .i64 N) ∧ w' = W from by
    have k := len_c W B g v ws' h
    rw [hl'] at k
    exact k)
  have HSet := Lib.hid (fun W ws' (h : MemAt W B g v ws') (hl' : ws'.length = N) (i : Nat) (hi : i < N) => show Calls Tryd.prog 33 #[.pointer (some ⟨g, 0, none⟩), .int .i64 i, .int .u64 0] W fun e w' => e = .returned (.int .i64 0) ∧ MemAt w' B g v (ws'.set i 0#64) ∧ W.grownBy w' v.ownBlock from by
    have k := set_in W B g v ws' i 0#64 (by omega) (by omega) h
    rw [show U64 0#64 = 0 from by decide +kernel] at k
    exact k)
  have HN := Lib.hid hN
  have q1 : (z : Int) ≤ (N : Int) := by omega
  have q2 : (N : Int) ≤ 100000 := by omega
  have q3 : (0 : Int) ≤ (a : Int) := by omega
  have q4 : (a : Int) ≤ (z : Int) := by omega
  clear p hN ha hz hl
  go_enter Tryd.func61, Tryd.ntmps61
  go_wp2_with fail
  go_loopw [6] (fun i W => ∃ k : Nat, a + k ≤ z ∧ i = .int .i64 ((a + k : Nat) : Int) ∧ SpAt W B s g v (zeroW ws a k) b t e ∧ w.grownBy W v.ownBlock) (fun i _ => z - (Go.RowKit.intOf i).toNat)
  case atStart => exact ⟨0, by omega, by first | rfl | (simp; done) | go_num, HP.out, grown_refl _ _⟩
  case round =>
    obtain ⟨k, hk, rfl, hp, hg⟩ := hrel
    obtain ⟨c0, c1, c2, c3⟩ := hp.four
    have hzl : (zeroW ws a k).length = N := by rw [zeroW_len]; exact HN.out.symm
    have KL := Lib.hid (HLen.out wr _ hp.mem hzl)
    obtain ⟨j, hj⟩ : ∃ j, j = a + k := ⟨_, rfl⟩
    rw [← hj] at hk ⊢
    have HPP := Lib.hid (And.intro hp hg)
    have p1 : (0 : Int) ≤ (j : Int) := by omega
    by_cases hlt : j < z
    · have KS := Lib.hid (HSet.out wr _ hp.mem hzl j (by omega))
      have HZL := Lib.hid hzl
      have HJ := Lib.hid hj
      clear hp hg hzl hj
      go_wp2_with fail
      refine Calls.mono KL.out ?_
      rintro r w3 ⟨rfl, rfl⟩
      go_wp2_with fail
      refine Calls.mono KS.out ?_
      rintro r w4 ⟨rfl, hm4, hg4⟩
      have h5 : SpAt w4 B s g v (zeroW ws a (k + 1)) b t e ∧ w.grownBy w4 v.ownBlock := by
        have e : zeroW ws a (k + 1) = (zeroW ws a k).set j 0#64 := by rw [HJ.out]; rfl
        rw [e]
        exact ⟨HPP.out.1.memTo hm4 hg4 (by rw [List.length_set]), HPP.out.2.trans hg4⟩
      have H5 := Lib.hid h5
      clear h5 hm4 hg4 KL KS
      go_wp2_with fail
      go_roundw
      case rel => exact ⟨k + 1, by have := HJ.out; omega, by have := HJ.out; go_num, H5.out.1, H5.out.2⟩
      case measure => (first | (simp [Go.RowKit.intOf]; done) | (simp [Go.RowKit.intOf]; omega))
    · have hjz : z - a = k := by omega
      have HJZ := Lib.hid hjz
      clear hp hg hzl hj hjz
      go_wp2_with fail
      refine Calls.mono KL.out ?_
      rintro r w3 ⟨rfl, rfl⟩
      go_wp2_with fail
      go_end0
      rw [HJZ.out]
      exact ⟨rfl, HPP.out.1, HPP.out.2⟩
end Go.Proofs.YtfodefgihicafaaDoor
/- space: Head. Conditions: lengths. -/
namespace Go.Proofs.YtfodefgihicafaaDoor
set_option linter.unusedVariables false
set_option linter.unusedSimpArgs false
open Go.RowKit
set_option maxHeartbeats 400000
set_option maxRecDepth 100000
theorem sphead_in (w : World) (B s g : Nat) (v : Value) (ws : List (BitVec 64)) (b t e : Nat) (p : SpAt w B s g v ws b t e) (i : Nat) (hi1 : b ≤ i) (hi2 : i < t) (hl : ws.length ≤ 100000) (hiw : i < ws.length) :
    Calls Tryd.prog 69 #[.pointer (some ⟨s, 0, none⟩), .int .i64 i] w (RetP (unV ws[i]) w) := by
  have hb := Gw.alloc w (.cells #[.int .i64 0, .int .i64 0, .bool false, .int .i64 0] 60)
  have hp := p.below hb
  obtain ⟨c0, c1, c2, c3⟩ := hp.four
  have HG := Lib.hid (get_in _ B g v ws i hiw hl hp.mem)
  obtain ⟨x, hx⟩ : ∃ x, x = ws[i] := ⟨_, rfl⟩
  rw [← hx] at HG ⊢
  have HU := Lib.hid (unpack_c x (w.alloc (.cells #[.int .i64 0, .int .i64 0, .bool false, .int .i64 0] 60)))
  have u1 : ¬ i < b := by omega
  have u2 : ¬ t ≤ i := by omega
  have hk := Bk.new w 60 #[.int .i64 0, .int .i64 0, .bool false, .int .i64 0]
  have HK := Lib.hid hk
  have HB := Lib.hid hb
  clear p hp hb hk hi1 hi2 hiw hx hl
  go_enter Tryd.func69, Tryd.ntmps69
  go_wp2_with fail
  refine Calls.mono HG.out ?_
  rintro r w1 ⟨rfl, rfl⟩
  go_wp2_with fail
  refine Calls.mono HU.out ?_
  rintro r w2 ⟨rfl, b2⟩
  have hk2 := HK.out.below b2 HK.out.lt
  have f0 := hk2.free 0
  have f1 := hk2.free 1
  have f2 := hk2.free 2
  have f3 := hk2.free 3
  obtain ⟨d0, d1, d2, d3⟩ := hk2.four
  have hkl := hk2.lt
  have HB2 := Lib.hid (HB.out.trans (b2.mono HB.out.size))
  unfold unV
  clear HG HU b2 hk2 HK c0 c1 c2 c3
  go_wp2_with fail
  refine bodyPost_ret (v := .tuple #[.agg #[.int .i64 (unP x), .int .i64 (unB x), .bool (unM' x), .int .i64 (unT x)], .int .i64 (unE x)]) (by simp [results, Tryd.results69, go_sem, d0, d1, d2, d3]) rfl ⟨rfl, ?_⟩
  exact (((HB2.out.setCell (p := ⟨w.heap.size, 0, none⟩) (Nat.le_refl _) _).setCell (p := ⟨w.heap.size, 1, none⟩) (Nat.le_refl _) _).setCell (p := ⟨w.heap.size, 2, none⟩) (Nat.le_refl _) _).setCell (p := ⟨w.heap.size, 3, none⟩) (Nat.le_refl _) _
theorem sphead_out (w : World) (B s g : Nat) (v : Value) (ws : List (BitVec 64)) (b t e : Nat) (p : SpAt w B s g v ws b t e) (i : Int) (hi : i < (b : Int) ∨ (¬ i < (b : Int) ∧ (t : Int) ≤ i)) :
    Calls Tryd.prog 69 #[.pointer (some ⟨s, 0, none⟩), .int .i64 i] w (RetP (.tuple #[.agg #[.int .i64 0, .int .i64 0, .bool false, .int .i64 0], .int .i64 1]) w) := by
  have hb := Gw.alloc w (.cells #[.int .i64 0, .int .i64 0, .bool false, .int .i64 0] 60)
  have hp := p.below hb
  obtain ⟨c0, c1, c2, c3⟩ := hp.four
  have hk := Bk.new w 60 #[.int .i64 0, .int .i64 0, .bool false, .int .i64 0]
  have f0 := hk.free 0
  have f1 := hk.free 1
  have f2 := hk.free 2
  have f3 := hk.free 3
  clear p hp hk
  rcases hi with h1 | ⟨h1, h2⟩
  all_goals
    go_enter Tryd.func69, Tryd.ntmps69
    go_wp2_with fail
    refine bodyPost_ret (v := .tuple #[.agg #[.int .i64 0, .int .i64 0, .bool false, .int .i64 0], .int .i64 1]) (by simp [results, Tryd.results69, go_sem]) rfl ⟨rfl, Gw.alloc w _⟩
end Go.Proofs.YtfodefgihicafaaDoor
/- space: Objects. Conditions: lengths. -/
namespace Go.Proofs.YtfodefgihicafaaDoor
set_option linter.unusedVariables false
set_option linter.unusedSimpArgs false
open Go.RowKit
def iN (n : Nat) : Value := .int .i64 (n : Int)
theorem iN_one : ∀ x : Nat, (iN x).oneCell' = true := fun _ => rfl
theorem oneI : One Tryd.prog 62 3 (.int .i64 0) 8 :=
  ⟨by kernel_rfl, by
    have h : (Tryd.prog.info? 3).map (fun i => (i.zero, i.size, i.bytes)) = some (some (.int .i64 0), 1, 8) := by kernel_rfl
    obtain ⟨i, h1, h2, h3, h4⟩ := info_parts h
    exact ⟨i, h1, h2, h3, h4⟩, rfl⟩
def szX (x : BitVec 64) : Nat := (sizeH (fP x) (fB x) (fM x) (fT x)).toNat
def goodX (x : BitVec 64) (room : Nat) : Bool := okU x && (!fM x && decide (szX x ≤ room))
/-- The places of the objects from at to top; none: they are none. -/
def objF (ws : List (BitVec 64)) (top : Nat) : Nat → Nat → Option (List Nat)
  | 0, _ => some []
  | n + 1, a => if a < top then (if goodX (ws.getD a 0#64) (top - a) = true then (objF ws top n (a + szX (ws.getD a 0#64))).map (a :: ·) else none) else some []
theorem szX_pos {x : BitVec 64} (h : okU x = true) (hm : fM x = false) : sizeH (fP x) (fB x) false (fT x) = ((szX x : Nat) : Int) ∧ 1 ≤ szX x ∧ szX x ≤ 1000 := by
  obtain ⟨hr, _⟩ := okU_yes h
  rw [hm] at hr
  rcases rightH_out hr with ⟨h1, _⟩ | ⟨_, h2, h3, h4, h5, h6⟩
  · cases h1
  · have e : sizeH (fP x) (fB x) false (fT x) = 1 + fP x + (fB x + 7) / 8 := if_pos ⟨hr, rfl⟩
    have e2 : szX x = (1 + fP x + (fB x + 7) / 8).toNat := by unfold szX; rw [hm, e]
    rw [e, e2]
    omega
theorem of_rp {P : Program} {f : FuncId} {args : Array Value} {v : Value} {w : World} (h : Calls P f args w (RetP v w)) : Calls P f args w fun e w2 => ∃ u, e = .returned u ∧ Below w.heap.size w w2 ∧ IsV v u w2 :=
  h.mono fun _ _ h => ⟨_, h.1, h.2, rfl⟩
set_option maxHeartbeats 400000
set_option maxRecDepth 100000
theorem obj_e (Q : Exit → Act → World → Prop) (a0 : Act) (w : World)  (hsz : a0.tmps.size = 50) (sl7 : a0.tmps.getD 7 undef = .int .i64 2)
    (fin : ∀ (vals : Nat → Value) (w1 : World), Below w.heap.size w w1 → (IsV (.bool true)) (vals 16) w1 → Q .normal (putD vals [24, 25, 26, 27, 28, 29, 30, 31, 32, 33, 34, 35, 36, 37, 38, 39, 40] 0 a0) w1) :
    (Code.region 5 (regIn Tryd.f42 5) true).wp Tryd.prog Q a0 w := by
  refine region_by (G := fun w w1 => Below w.heap.size w w1) [IsV (.int .i64 2),
    IsV (.bool true),
    IsV (.bool true),
    IsV undef,
    IsV undef,
    IsV (.bool true),
    IsV (.bool true),
    IsV undef,
    IsV undef,
    IsV undef,
    IsV undef,
    IsV undef,
    IsV undef,
    IsV undef,
    IsV undef,
    IsV undef,
    IsV (.bool true)]
    [24, 25, 26, 27, 28, 29, 30, 31, 32, 33, 34, 35, 36, 37, 38, 39, 40] (by kernel_rfl) (Gw.drew _) Gw.trans (by rw [hsz]; kernel_rfl) (by kernel_rfl) ?_ ?_ ?_
  · intro f hf
    simp only [List.mem_cons, List.not_mem_nil, or_false] at hf
    rcases hf with rfl | rfl | rfl | rfl | rfl | rfl | rfl | rfl | rfl | rfl | rfl | rfl | rfl | rfl | rfl | rfl | rfl <;> intro v a b h g <;> first | exact IsV.mono h
  · refine ⟨?_, ?_, ?_, ?_, ?_, ?_, ?_, ?_, ?_, ?_, ?_, ?_, ?_, ?_, ?_, ?_, ?_, trivial⟩
    · exact owes_mv 7 (by kernel_rfl) (by kernel_rfl) (by kernel_rfl) sl7 (fun _ => rfl)
    · refine owes_v (Go.Op.binOp Go.BinOp.neq 33 (Go.Operand.tmp 24) (Go.Operand.const (Go.Value.int Go.IntKind.i64 0)) 33) 4 [0] (by kernel_rfl) (by kernel_rfl) (by kernel_rfl) rfl fun vals w1 ρ hG hF hρ hcst hfun => ?_
      have e24 : ρ (.tmp 24) = .int .i64 2 := ((hρ 24).trans (slotJ [0] (by rw [hsz]; decide) (by kernel_rfl))).trans (hF 0 (by decide))
      clear hρ hF hfun sl7 fin
      exact opv_val (by go_simp <;> rfl) ⟨gw_self _, rfl⟩
    · exact owes_mvj 1 25 (by kernel_rfl) (by kernel_rfl) (by kernel_rfl) (by kernel_rfl) (by rw [hsz]; decide) (fun v w h => h)
    · exact owes_no 2 true false (by decide) (by kernel_rfl) (by kernel_rfl) (fun _ _ h => h) (by rw [hsz]; kernel_rfl) (fun _ => rfl)
    · exact owes_no 2 true false (by decide) (by kernel_rfl) (by kernel_rfl) (fun _ _ h => h) (by rw [hsz]; kernel_rfl) (fun _ => rfl)
    · refine owes_v (Go.Op.pick (Go.Operand.tmp 26) (Go.Operand.const (Go.Value.bool true)) (Go.Operand.tmp 28)) 4 [2, 4] (by kernel_rfl) (by kernel_rfl) (by kernel_rfl) rfl fun vals w1 ρ hG hF hρ hcst hfun => ?_
      have e26 : ρ (.tmp 26) = .bool true := ((hρ 26).trans (slotJ [2, 4] (by rw [hsz]; decide) (by kernel_rfl))).trans (hF 2 (by decide))
      have e28 : ρ (.tmp 28) = undef := ((hρ 28).trans (slotJ [2, 4] (by rw [hsz]; decide) (by kernel_rfl))).trans (hF 4 (by decide))
      clear hρ hF hfun sl7 fin
      exact opv_val (by go_simp <;> rfl) ⟨gw_self _, rfl⟩
    · exact owes_mvj 5 29 (by kernel_rfl) (by kernel_rfl) (by kernel_rfl) (by kernel_rfl) (by rw [hsz]; decide) (fun v w h => h)
    · exact owes_no 6 true false (by decide) (by kernel_rfl) (by kernel_rfl) (fun _ _ h => h) (by rw [hsz]; kernel_rfl) (fun _ => rfl)
    · exact owes_no 6 true false (by decide) (by kernel_rfl) (by kernel_rfl) (fun _ _ h => h) (by rw [hsz]; kernel_rfl) (fun _ => rfl)
    · exact owes_no 6 true false (by decide) (by kernel_rfl) (by kernel_rfl) (fun _ _ h => h) (by rw [hsz]; kernel_rfl) (fun _ => rfl)
    · exact owes_no 6 true false (by decide) (by kernel_rfl) (by kernel_rfl) (fun _ _ h => h) (by rw [hsz]; kernel_rfl) (fun _ => rfl)
    · exact owes_no 6 true false (by decide) (by kernel_rfl) (by kernel_rfl) (fun _ _ h => h) (by rw [hsz]; kernel_rfl) (fun _ => rfl)
    · exact owes_no 6 true false (by decide) (by kernel_rfl) (by kernel_rfl) (fun _ _ h => h) (by rw [hsz]; kernel_rfl) (fun _ => rfl)
    · exact owes_no 6 true false (by decide) (by kernel_rfl) (by kernel_rfl) (fun _ _ h => h) (by rw [hsz]; kernel_rfl) (fun _ => rfl)
    · exact owes_no 6 true false (by decide) (by kernel_rfl) (by kernel_rfl) (fun _ _ h => h) (by rw [hsz]; kernel_rfl) (fun _ => rfl)
    · exact owes_no 6 true false (by decide) (by kernel_rfl) (by kernel_rfl) (fun _ _ h => h) (by rw [hsz]; kernel_rfl) (fun _ => rfl)
    · refine owes_v (Go.Op.pick (Go.Operand.tmp 30) (Go.Operand.const (Go.Value.bool true)) (Go.Operand.tmp 39)) 4 [6, 15] (by kernel_rfl) (by kernel_rfl) (by kernel_rfl) rfl fun vals w1 ρ hG hF hρ hcst hfun => ?_
      have e30 : ρ (.tmp 30) = .bool true := ((hρ 30).trans (slotJ [6, 15] (by rw [hsz]; decide) (by kernel_rfl))).trans (hF 6 (by decide))
      have e39 : ρ (.tmp 39) = undef := ((hρ 39).trans (slotJ [6, 15] (by rw [hsz]; decide) (by kernel_rfl))).trans (hF 15 (by decide))
      clear hρ hF hfun sl7 fin
      exact opv_val (by go_simp <;> rfl) ⟨gw_self _, rfl⟩
  · intro vals w1 hG hF
    exact fin vals w1 hG (hF 16 (by decide +kernel))
theorem obj_m (Q : Exit → Act → World → Prop) (a0 : Act) (w : World) (H : Nat) (p b t : Int) (hk : Bk w H 60 #[.int .i64 p, .int .i64 b, .bool true, .int .i64 t]) (hsz : a0.tmps.size = 50) (sl6 : a0.tmps.getD 6 undef = .pointer (some ⟨H, 0, none⟩)) (sl7 : a0.tmps.getD 7 undef = .int .i64 0)
    (fin : ∀ (vals : Nat → Value) (w1 : World), Below w.heap.size w w1 → (IsV (.bool true)) (vals 16) w1 → Q .normal (putD vals [24, 25, 26, 27, 28, 29, 30, 31, 32, 33, 34, 35, 36, 37, 38, 39, 40] 0 a0) w1) :
    (Code.region 5 (regIn Tryd.f42 5) true).wp Tryd.prog Q a0 w := by
  refine region_by (G := fun w w1 => Below w.heap.size w w1) [IsV (.int .i64 0),
    IsV (.bool false),
    IsV (.bool false),
    IsV (.pointer (some ⟨H, 2, none⟩)),
    IsV (.bool true),
    IsV (.bool true),
    IsV (.bool true),
    IsV undef,
    IsV undef,
    IsV undef,
    IsV undef,
    IsV undef,
    IsV undef,
    IsV undef,
    IsV undef,
    IsV undef,
    IsV (.bool true)]
    [24, 25, 26, 27, 28, 29, 30, 31, 32, 33, 34, 35, 36, 37, 38, 39, 40] (by kernel_rfl) (Gw.drew _) Gw.trans (by rw [hsz]; kernel_rfl) (by kernel_rfl) ?_ ?_ ?_
  · intro f hf
    simp only [List.mem_cons, List.not_mem_nil, or_false] at hf
    rcases hf with rfl | rfl | rfl | rfl | rfl | rfl | rfl | rfl | rfl | rfl | rfl | rfl | rfl | rfl | rfl | rfl | rfl <;> intro v a b h g <;> first | exact IsV.mono h
  · refine ⟨?_, ?_, ?_, ?_, ?_, ?_, ?_, ?_, ?_, ?_, ?_, ?_, ?_, ?_, ?_, ?_, ?_, trivial⟩
    · exact owes_mv 7 (by kernel_rfl) (by kernel_rfl) (by kernel_rfl) sl7 (fun _ => rfl)
    · refine owes_v (Go.Op.binOp Go.BinOp.neq 33 (Go.Operand.tmp 24) (Go.Operand.const (Go.Value.int Go.IntKind.i64 0)) 33) 4 [0] (by kernel_rfl) (by kernel_rfl) (by kernel_rfl) rfl fun vals w1 ρ hG hF hρ hcst hfun => ?_
      have e24 : ρ (.tmp 24) = .int .i64 0 := ((hρ 24).trans (slotJ [0] (by rw [hsz]; decide) (by kernel_rfl))).trans (hF 0 (by decide))
      clear hρ hF hfun sl6 sl7 fin
      exact opv_val (by go_simp <;> rfl) ⟨gw_self _, rfl⟩
    · exact owes_mvj 1 25 (by kernel_rfl) (by kernel_rfl) (by kernel_rfl) (by kernel_rfl) (by rw [hsz]; decide) (fun v w h => h)
    · refine owes_vt 2 false (Go.Op.fieldAddr 60 (Go.Operand.tmp 6) 2) 0 [] (by kernel_rfl) (by kernel_rfl) (by kernel_rfl) (fun _ _ h => h) (by rw [hsz]; kernel_rfl) (by kernel_rfl) rfl fun vals w1 ρ hG hF hρ hcst hfun => ?_
      have e6 : ρ (.tmp 6) = .pointer (some ⟨H, 0, none⟩) := ((hρ 6).trans (slotO [] (by kernel_rfl))).trans sl6
      clear hρ hF hcst hfun sl6 sl7 fin
      exact opv_val (by go_simp <;> rfl) ⟨gw_self _, rfl⟩
    · refine owes_vt 2 false (Go.Op.load 4 (Go.Operand.tmp 27)) 4 [3] (by kernel_rfl) (by kernel_rfl) (by kernel_rfl) (fun _ _ h => h) (by rw [hsz]; kernel_rfl) (by kernel_rfl) rfl fun vals w1 ρ hG hF hρ hcst hfun => ?_
      have e27 : ρ (.tmp 27) = .pointer (some ⟨H, 2, none⟩) := ((hρ 27).trans (slotJ [3] (by rw [hsz]; decide) (by kernel_rfl))).trans (hF 3 (by decide))
      have k := ((hk.below hG hk.lt).four).2.2.1
      clear hρ hF hcst hfun sl6 sl7 fin
      exact opv_val (by go_simp <;> rfl) ⟨gw_self _, rfl⟩
    · refine owes_v (Go.Op.pick (Go.Operand.tmp 26) (Go.Operand.const (Go.Value.bool true)) (Go.Operand.tmp 28)) 4 [2, 4] (by kernel_rfl) (by kernel_rfl) (by kernel_rfl) rfl fun vals w1 ρ hG hF hρ hcst hfun => ?_
      have e26 : ρ (.tmp 26) = .bool false := ((hρ 26).trans (slotJ [2, 4] (by rw [hsz]; decide) (by kernel_rfl))).trans (hF 2 (by decide))
      have e28 : ρ (.tmp 28) = .bool true := ((hρ 28).trans (slotJ [2, 4] (by rw [hsz]; decide) (by kernel_rfl))).trans (hF 4 (by decide))
      clear hρ hF hfun sl6 sl7 fin
      exact opv_val (by go_simp <;> rfl) ⟨gw_self _, rfl⟩
    · exact owes_mvj 5 29 (by kernel_rfl) (by kernel_rfl) (by kernel_rfl) (by kernel_rfl) (by rw [hsz]; decide) (fun v w h => h)
    · exact owes_no 6 true false (by decide) (by kernel_rfl) (by kernel_rfl) (fun _ _ h => h) (by rw [hsz]; kernel_rfl) (fun _ => rfl)
    · exact owes_no 6 true false (by decide) (by kernel_rfl) (by kernel_rfl) (fun _ _ h => h) (by rw [hsz]; kernel_rfl) (fun _ => rfl)
    · exact owes_no 6 true false (by decide) (by kernel_rfl) (by kernel_rfl) (fun _ _ h => h) (by rw [hsz]; kernel_rfl) (fun _ => rfl)
    · exact owes_no 6 true false (by decide) (by kernel_rfl) (by kernel_rfl) (fun _ _ h => h) (by rw [hsz]; kernel_rfl) (fun _ => rfl)
    · exact owes_no 6 true false (by decide) (by kernel_rfl) (by kernel_rfl) (fun _ _ h => h) (by rw [hsz]; kernel_rfl) (fun _ => rfl)
    · exact owes_no 6 true false (by decide) (by kernel_rfl) (by kernel_rfl) (fun _ _ h => h) (by rw [hsz]; kernel_rfl) (fun _ => rfl)
    · exact owes_no 6 true false (by decide) (by kernel_rfl) (by kernel_rfl) (fun _ _ h => h) (by rw [hsz]; kernel_rfl) (fun _ => rfl)
    · exact owes_no 6 true false (by decide) (by kernel_rfl) (by kernel_rfl) (fun _ _ h => h) (by rw [hsz]; kernel_rfl) (fun _ => rfl)
    · exact owes_no 6 true false (by decide) (by kernel_rfl) (by kernel_rfl) (fun _ _ h => h) (by rw [hsz]; kernel_rfl) (fun _ => rfl)
    · refine owes_v (Go.Op.pick (Go.Operand.tmp 30) (Go.Operand.const (Go.Value.bool true)) (Go.Operand.tmp 39)) 4 [6, 15] (by kernel_rfl) (by kernel_rfl) (by kernel_rfl) rfl fun vals w1 ρ hG hF hρ hcst hfun => ?_
      have e30 : ρ (.tmp 30) = .bool true := ((hρ 30).trans (slotJ [6, 15] (by rw [hsz]; decide) (by kernel_rfl))).trans (hF 6 (by decide))
      have e39 : ρ (.tmp 39) = undef := ((hρ 39).trans (slotJ [6, 15] (by rw [hsz]; decide) (by kernel_rfl))).trans (hF 15 (by decide))
      clear hρ hF hfun sl6 sl7 fin
      exact opv_val (by go_simp <;> rfl) ⟨gw_self _, rfl⟩
  · intro vals w1 hG hF
    exact fin vals w1 hG (hF 16 (by decide +kernel))
theorem obj_s (Q : Exit → Act → World → Prop) (a0 : Act) (w : World) (H s a top room sz : Nat) (p b t : Int) (r : Bool) (hk : Bk w H 60 #[.int .i64 p, .int .i64 b, .bool false, .int .i64 t]) (hs : s < w.heap.size) (ct : w.cell? ⟨s, 2, none⟩ = some (.int .i64 top)) (hz : sizeH p b false t = (sz : Int)) (d1 : (top : Int) - (a : Int) = (room : Int)) (d2 : (room : Int) ≤ 100000) (d3 : (0 : Int) ≤ (room : Int)) (hr : decide (room < sz) = r) (hsz : a0.tmps.size = 50) (sl0 : a0.tmps.getD 0 undef = .pointer (some ⟨s, 0, none⟩)) (sl5 : a0.tmps.getD 5 undef = .int .i64 a) (sl6 : a0.tmps.getD 6 undef = .pointer (some ⟨H, 0, none⟩)) (sl7 : a0.tmps.getD 7 undef = .int .i64 0)
    (fin : ∀ (vals : Nat → Value) (w1 : World), Below w.heap.size w w1 → (IsV (.bool r)) (vals 16) w1 → Q .normal (putD vals [24, 25, 26, 27, 28, 29, 30, 31, 32, 33, 34, 35, 36, 37, 38, 39, 40] 0 a0) w1) :
    (Code.region 5 (regIn Tryd.f42 5) true).wp Tryd.prog Q a0 w := by
  refine region_by (G := fun w w1 => Below w.heap.size w w1) [IsV (.int .i64 0),
    IsV (.bool false),
    IsV (.bool false),
    IsV (.pointer (some ⟨H, 2, none⟩)),
    IsV (.bool false),
    IsV (.bool false),
    IsV (.bool false),
    IsV (.agg #[.int .i64 p, .int .i64 b, .bool false, .int .i64 t]),
    IsV (.int .i64 sz),
    IsV (.pointer (some ⟨s, 0, none⟩)),
    IsV (.pointer (some ⟨s, 0, none⟩)),
    IsV (.pointer (some ⟨s, 2, none⟩)),
    IsV (.int .i64 top),
    IsV (.int .i64 a),
    IsV (.int .i64 room),
    IsV (.bool r),
    IsV (.bool r)]
    [24, 25, 26, 27, 28, 29, 30, 31, 32, 33, 34, 35, 36, 37, 38, 39, 40] (by kernel_rfl) (Gw.drew _) Gw.trans (by rw [hsz]; kernel_rfl) (by kernel_rfl) ?_ ?_ ?_
  · intro f hf
    simp only [List.mem_cons, List.not_mem_nil, or_false] at hf
    rcases hf with rfl | rfl | rfl | rfl | rfl | rfl | rfl | rfl | rfl | rfl | rfl | rfl | rfl | rfl | rfl | rfl | rfl <;> intro v a b h g <;> first | exact IsV.mono h
  · refine ⟨?_, ?_, ?_, ?_, ?_, ?_, ?_, ?_, ?_, ?_, ?_, ?_, ?_, ?_, ?_, ?_, ?_, trivial⟩
    · exact owes_mv 7 (by kernel_rfl) (by kernel_rfl) (by kernel_rfl) sl7 (fun _ => rfl)
    · refine owes_v (Go.Op.binOp Go.BinOp.neq 33 (Go.Operand.tmp 24) (Go.Operand.const (Go.Value.int Go.IntKind.i64 0)) 33) 4 [0] (by kernel_rfl) (by kernel_rfl) (by kernel_rfl) rfl fun vals w1 ρ hG hF hρ hcst hfun => ?_
      have e24 : ρ (.tmp 24) = .int .i64 0 := ((hρ 24).trans (slotJ [0] (by rw [hsz]; decide) (by kernel_rfl))).trans (hF 0 (by decide))
      clear hρ hF hfun sl0 sl5 sl6 sl7 fin
      exact opv_val (by go_simp <;> rfl) ⟨gw_self _, rfl⟩
    · exact owes_mvj 1 25 (by kernel_rfl) (by kernel_rfl) (by kernel_rfl) (by kernel_rfl) (by rw [hsz]; decide) (fun v w h => h)
    · refine owes_vt 2 false (Go.Op.fieldAddr 60 (Go.Operand.tmp 6) 2) 0 [] (by kernel_rfl) (by kernel_rfl) (by kernel_rfl) (fun _ _ h => h) (by rw [hsz]; kernel_rfl) (by kernel_rfl) rfl fun vals w1 ρ hG hF hρ hcst hfun => ?_
      have e6 : ρ (.tmp 6) = .pointer (some ⟨H, 0, none⟩) := ((hρ 6).trans (slotO [] (by kernel_rfl))).trans sl6
      clear hρ hF hcst hfun sl0 sl5 sl6 sl7 fin
      exact opv_val (by go_simp <;> rfl) ⟨gw_self _, rfl⟩
    · refine owes_vt 2 false (Go.Op.load 4 (Go.Operand.tmp 27)) 4 [3] (by kernel_rfl) (by kernel_rfl) (by kernel_rfl) (fun _ _ h => h) (by rw [hsz]; kernel_rfl) (by kernel_rfl) rfl fun vals w1 ρ hG hF hρ hcst hfun => ?_
      have e27 : ρ (.tmp 27) = .pointer (some ⟨H, 2, none⟩) := ((hρ 27).trans (slotJ [3] (by rw [hsz]; decide) (by kernel_rfl))).trans (hF 3 (by decide))
      have k := ((hk.below hG hk.lt).four).2.2.1
      clear hρ hF hcst hfun sl0 sl5 sl6 sl7 fin
      exact opv_val (by go_simp <;> rfl) ⟨gw_self _, rfl⟩
    · refine owes_v (Go.Op.pick (Go.Operand.tmp 26) (Go.Operand.const (Go.Value.bool true)) (Go.Operand.tmp 28)) 4 [2, 4] (by kernel_rfl) (by kernel_rfl) (by kernel_rfl) rfl fun vals w1 ρ hG hF hρ hcst hfun => ?_
      have e26 : ρ (.tmp 26) = .bool false := ((hρ 26).trans (slotJ [2, 4] (by rw [hsz]; decide) (by kernel_rfl))).trans (hF 2 (by decide))
      have e28 : ρ (.tmp 28) = .bool false := ((hρ 28).trans (slotJ [2, 4] (by rw [hsz]; decide) (by kernel_rfl))).trans (hF 4 (by decide))
      clear hρ hF hfun sl0 sl5 sl6 sl7 fin
      exact opv_val (by go_simp <;> rfl) ⟨gw_self _, rfl⟩
    · exact owes_mvj 5 29 (by kernel_rfl) (by kernel_rfl) (by kernel_rfl) (by kernel_rfl) (by rw [hsz]; decide) (fun v w h => h)
    · refine owes_vt 6 false (Go.Op.load 60 (Go.Operand.tmp 6)) 60 [] (by kernel_rfl) (by kernel_rfl) (by kernel_rfl) (fun _ _ h => h) (by rw [hsz]; kernel_rfl) (by kernel_rfl) rfl fun vals w1 ρ hG hF hρ hcst hfun => ?_
      have e6 : ρ (.tmp 6) = .pointer (some ⟨H, 0, none⟩) := ((hρ 6).trans (slotO [] (by kernel_rfl))).trans sl6
      obtain ⟨k1, k2, k3, k4⟩ := (hk.below hG hk.lt).four
      clear hρ hF hcst hfun sl0 sl5 sl6 sl7 fin
      exact opv_val (by go_simp <;> rfl) ⟨gw_self _, rfl⟩
    · refine owes_vt 6 false (Go.Op.call { callee := Go.Callee.value (Go.Operand.func 60), args := #[Go.Operand.tmp 31], argTypes := #[60] }) 3 [7] (by kernel_rfl) (by kernel_rfl) (by kernel_rfl) (fun _ _ h => h) (by rw [hsz]; kernel_rfl) (by kernel_rfl) rfl fun vals w1 ρ hG hF hρ hcst hfun => ?_
      have e31 : ρ (.tmp 31) = .agg #[.int .i64 p, .int .i64 b, .bool false, .int .i64 t] := ((hρ 31).trans (slotJ [7] (by rw [hsz]; decide) (by kernel_rfl))).trans (hF 7 (by decide))
      have kz := size_c p b false t w1
      rw [hz] at kz
      clear hρ hF hcst sl0 sl5 sl6 sl7 fin
      exact opv_enter (by go_simp <;> rfl) (of_rp kz)
    · refine owes_vt 6 false (Go.Op.move (Go.Operand.tmp 0)) 25 [] (by kernel_rfl) (by kernel_rfl) (by kernel_rfl) (fun _ _ h => h) (by rw [hsz]; kernel_rfl) (by kernel_rfl) rfl fun vals w1 ρ hG hF hρ hcst hfun => ?_
      have e0 : ρ (.tmp 0) = .pointer (some ⟨s, 0, none⟩) := ((hρ 0).trans (slotO [] (by kernel_rfl))).trans sl0
      clear hρ hF hcst hfun sl0 sl5 sl6 sl7 fin
      exact opv_val (by go_simp <;> rfl) ⟨gw_self _, rfl⟩
    · refine owes_vt 6 false (Go.Op.nilCheck (Go.Operand.tmp 33)) 0 [9] (by kernel_rfl) (by kernel_rfl) (by kernel_rfl) (fun _ _ h => h) (by rw [hsz]; kernel_rfl) (by kernel_rfl) rfl fun vals w1 ρ hG hF hρ hcst hfun => ?_
      have e33 : ρ (.tmp 33) = .pointer (some ⟨s, 0, none⟩) := ((hρ 33).trans (slotJ [9] (by rw [hsz]; decide) (by kernel_rfl))).trans (hF 9 (by decide))
      clear hρ hF hcst hfun sl0 sl5 sl6 sl7 fin
      exact opv_val (by go_simp <;> rfl) ⟨gw_self _, rfl⟩
    · refine owes_vt 6 false (Go.Op.fieldAddr 65 (Go.Operand.tmp 34) 2) 0 [10] (by kernel_rfl) (by kernel_rfl) (by kernel_rfl) (fun _ _ h => h) (by rw [hsz]; kernel_rfl) (by kernel_rfl) rfl fun vals w1 ρ hG hF hρ hcst hfun => ?_
      have e34 : ρ (.tmp 34) = .pointer (some ⟨s, 0, none⟩) := ((hρ 34).trans (slotJ [10] (by rw [hsz]; decide) (by kernel_rfl))).trans (hF 10 (by decide))
      clear hρ hF hcst hfun sl0 sl5 sl6 sl7 fin
      exact opv_val (by go_simp <;> rfl) ⟨gw_self _, rfl⟩
    · refine owes_vt 6 false (Go.Op.load 3 (Go.Operand.tmp 35)) 3 [11] (by kernel_rfl) (by kernel_rfl) (by kernel_rfl) (fun _ _ h => h) (by rw [hsz]; kernel_rfl) (by kernel_rfl) rfl fun vals w1 ρ hG hF hρ hcst hfun => ?_
      have e35 : ρ (.tmp 35) = .pointer (some ⟨s, 2, none⟩) := ((hρ 35).trans (slotJ [11] (by rw [hsz]; decide) (by kernel_rfl))).trans (hF 11 (by decide))
      have k := (hG.cell (p := ⟨s, 2, none⟩) hs).trans ct
      clear hρ hF hcst hfun sl0 sl5 sl6 sl7 fin
      exact opv_val (by go_simp <;> rfl) ⟨gw_self _, rfl⟩
    · refine owes_vt 6 false (Go.Op.move (Go.Operand.tmp 5)) 3 [] (by kernel_rfl) (by kernel_rfl) (by kernel_rfl) (fun _ _ h => h) (by rw [hsz]; kernel_rfl) (by kernel_rfl) rfl fun vals w1 ρ hG hF hρ hcst hfun => ?_
      have e5 : ρ (.tmp 5) = .int .i64 a := ((hρ 5).trans (slotO [] (by kernel_rfl))).trans sl5
      clear hρ hF hcst hfun sl0 sl5 sl6 sl7 fin
      exact opv_val (by go_simp <;> rfl) ⟨gw_self _, rfl⟩
    · refine owes_vt 6 false (Go.Op.binOp Go.BinOp.sub 3 (Go.Operand.tmp 36) (Go.Operand.tmp 37) 3) 3 [12, 13] (by kernel_rfl) (by kernel_rfl) (by kernel_rfl) (fun _ _ h => h) (by rw [hsz]; kernel_rfl) (by kernel_rfl) rfl fun vals w1 ρ hG hF hρ hcst hfun => ?_
      have e36 : ρ (.tmp 36) = .int .i64 top := ((hρ 36).trans (slotJ [12, 13] (by rw [hsz]; decide) (by kernel_rfl))).trans (hF 12 (by decide))
      have e37 : ρ (.tmp 37) = .int .i64 a := ((hρ 37).trans (slotJ [12, 13] (by rw [hsz]; decide) (by kernel_rfl))).trans (hF 13 (by decide))
      have kw0 : IntKind.i64.wrap ((room : Int)) = (room : Int) := wrapIn (by omega) (by omega)
      clear hρ hF hcst hfun sl0 sl5 sl6 sl7 fin
      exact opv_val (by go_simp <;> rfl) ⟨gw_self _, rfl⟩
    · refine owes_vt 6 false (Go.Op.binOp Go.BinOp.gtr 3 (Go.Operand.tmp 32) (Go.Operand.tmp 38) 3) 4 [8, 14] (by kernel_rfl) (by kernel_rfl) (by kernel_rfl) (fun _ _ h => h) (by rw [hsz]; kernel_rfl) (by kernel_rfl) rfl fun vals w1 ρ hG hF hρ hcst hfun => ?_
      have e32 : ρ (.tmp 32) = .int .i64 sz := ((hρ 32).trans (slotJ [8, 14] (by rw [hsz]; decide) (by kernel_rfl))).trans (hF 8 (by decide))
      have e38 : ρ (.tmp 38) = .int .i64 room := ((hρ 38).trans (slotJ [8, 14] (by rw [hsz]; decide) (by kernel_rfl))).trans (hF 14 (by decide))
      clear hρ hF hcst hfun sl0 sl5 sl6 sl7 fin
      exact opv_val (by go_simp <;> first | rfl | exact hr | rw [hr]) ⟨gw_self _, rfl⟩
    · refine owes_v (Go.Op.pick (Go.Operand.tmp 30) (Go.Operand.const (Go.Value.bool true)) (Go.Operand.tmp 39)) 4 [6, 15] (by kernel_rfl) (by kernel_rfl) (by kernel_rfl) rfl fun vals w1 ρ hG hF hρ hcst hfun => ?_
      have e30 : ρ (.tmp 30) = .bool false := ((hρ 30).trans (slotJ [6, 15] (by rw [hsz]; decide) (by kernel_rfl))).trans (hF 6 (by decide))
      have e39 : ρ (.tmp 39) = .bool r := ((hρ 39).trans (slotJ [6, 15] (by rw [hsz]; decide) (by kernel_rfl))).trans (hF 15 (by decide))
      clear hρ hF hfun sl0 sl5 sl6 sl7 fin
      exact opv_val (by go_simp <;> rfl) ⟨gw_self _, rfl⟩
  · intro vals w1 hG hF
    exact fin vals w1 hG (hF 16 (by decide +kernel))
def ObjP (r : Option (List Nat)) (w : World) (e : Ending) (w' : World) : Prop := match r with
  | some l => MkEP iN 3 l 0 w e w'
  | none => RetP (.tuple #[.slice none 0 0, .int .i64 2]) w e w'
theorem objF_end (ws : List (BitVec 64)) (top n a : Nat) (h : ¬ a < top) : objF ws top n a = some [] := by
  cases n with
  | zero => rfl
  | succ n => exact if_neg h
theorem unV_bad {x : BitVec 64} (h : okU x = false) : unV x = .tuple #[.agg #[.int .i64 0, .int .i64 0, .bool false, .int .i64 0], .int .i64 2] := unV_no h
theorem bk_kept {w w5 : World} {H : Nat} {E : TypeId} {cs : Array Value} {o : Obj} {row : Option Nat} (h : Bk w H E cs) (hg : (w.alloc o).grownBy w5 row) (hne : some H ≠ row) : Bk w5 H E cs := (hg.block H (h.alloc o).lt hne).trans (h.alloc o)
theorem objects_c (w : World) (B s g : Nat) (v : Value) (ws : List (BitVec 64)) (b t e : Nat) (p : SpAt w B s g v ws b t e) (hl : ws.length ≤ 100000) :
    Calls Tryd.prog 42 #[.pointer (some ⟨s, 0, none⟩)] w (ObjP (objF ws t (t + 1) b) w) := by
  have HP := Lib.hid p
  have HHd := Lib.hid (fun W (hb : Below w.heap.size w W) (i : Nat) (h1 : b ≤ i) (h2 : i < t) (hiw : i < ws.length) => sphead_in W B s g v ws b t e (p.below hb) i h1 h2 hl hiw)
  have htw : t ≤ ws.length := Nat.le_trans p.te p.el
  have HTW := Lib.hid htw
  obtain ⟨R, hR⟩ : ∃ R, R = objF ws t (t + 1) b := ⟨_, rfl⟩
  rw [← hR]
  have HRR := Lib.hid hR
  have hc1 := p.four.2.1
  have hc2 := p.four.2.2.1
  have hsl := p.blk.lt
  have q1 : (t : Int) ≤ 100000 := by omega
  have q2 : (b : Int) ≤ 100000 := by have := p.bt; omega
  clear p hl htw hR
  go_enter Tryd.func42, Tryd.ntmps42
  go_wp2_with fail
  go_loopw [4, 5] (fun o i W => ∃ (n a : Nat) (pre : List Nat), i = .int .i64 a ∧ Hid (b ≤ a) ∧ Hid (t < a + n) ∧ Hid (R = (objF ws t n a).map (pre ++ ·)) ∧ Hid (pre.length ≤ a) ∧ Ow iN 3 W w.heap.size o pre ∧ Below w.heap.size w W) (fun _ i _ => t - (Go.RowKit.intOf i).toNat)
  case atStart => exact ⟨t + 1, b, [], rfl, Lib.hid (Nat.le_refl _), Lib.hid (by omega), Lib.hid (by rw [HRR.out]; simp), Lib.hid (by simp), Ow.nil_ _ _ _ _, Below.refl _ _⟩
  case round =>
    obtain ⟨n, a, pre, rfl, hba, htn, hre, hpl, ho, hB⟩ := hrel
    have hp := HP.out.below hB
    have c2 := hp.four.2.2.1
    by_cases hlt : a < t
    · have p1 : (0 : Int) ≤ (a : Int) := by omega
      have haw : a < ws.length := Nat.lt_of_lt_of_le hlt HTW.out
      have HH := Lib.hid (HHd.out wr hB a hba.out hlt haw)
      obtain ⟨x, hx⟩ : ∃ x, x = ws[a] := ⟨_, rfl⟩
      rw [← hx] at HH
      obtain ⟨m, rfl⟩ : ∃ m, n = m + 1 := ⟨n - 1, by have := htn.out; omega⟩
      have hgx : ws.getD a 0#64 = x := by rw [List.getD_eq_getElem?_getD, List.getElem?_eq_getElem haw, hx]; rfl
      have hstep : R = (if goodX x (t - a) = true then (objF ws t m (a + szX x)).map (a :: ·) else none).map (pre ++ ·) := by
        have h := hre.out
        have e : objF ws t (m + 1) a = if goodX x (t - a) = true then (objF ws t m (a + szX x)).map (a :: ·) else none := by
          show (if a < t then _ else _) = _
          rw [if_pos hlt, hgx]
        rw [e] at h
        exact h
      have HST := Lib.hid hstep
      have HO := Lib.hid ho
      have HBB := Lib.hid hB
      have HPW := Lib.hid hp
      clear hre hx haw hgx hstep ho hp
      cases hok : okU x with
      | false =>
        rw [unV_bad hok] at HH
        have hbad : R = none := by
          rw [HST.out]
          have : goodX x (t - a) = false := by unfold goodX; rw [hok]; rfl
          rw [this]
          rfl
        have HRN := Lib.hid hbad
        clear hbad hok
        go_wp2_with fail
        refine Calls.mono HH.out ?_
        rintro r w2 ⟨rfl, b2⟩
        have HB2 := Lib.hid (hB.trans (b2.mono hB.size))
        clear b2
        go_wp2_with fail
        refine obj_e _ _ _ rfl rfl ?_
        intro vals w3 hG h40
        unfold IsV at h40
        simp only [putD, Act.put, List.setIfInBounds_toArray, List.set_cons_zero, List.set_cons_succ, h40]
        have HB3 := Lib.hid (((HB2.out.alloc HB2.out.size _)).trans (hG.mono (by have := HB2.out.size; simp; omega)))
        clear h40 hG
        go_wp2_with fail
        go_ret2
        rw [HRN.out]
        exact ⟨rfl, HB3.out⟩
      | true =>
        cases hm : fM x with
        | true =>
          have hv := unV_yes hok
          rw [hm] at hv
          rw [hv] at HH
          have hbad : R = none := by
            rw [HST.out]
            have : goodX x (t - a) = false := by unfold goodX; rw [hok, hm]; rfl
            rw [this]
            rfl
          have HRN := Lib.hid hbad
          clear hbad hok hm hv
          go_wp2_with fail
          refine Calls.mono HH.out ?_
          rintro r w2 ⟨rfl, b2⟩
          have HB2 := Lib.hid (hB.trans (b2.mono hB.size))
          clear b2
          go_wp2_with fail
          refine obj_m _ _ _ w2.heap.size (fP x) (fB x) (fT x) (Bk.new w2 _ _) rfl rfl rfl ?_
          intro vals w3 hG h40
          unfold IsV at h40
          simp only [putD, Act.put, List.setIfInBounds_toArray, List.set_cons_zero, List.set_cons_succ, h40]
          have HB3 := Lib.hid (((HB2.out.alloc HB2.out.size _)).trans (hG.mono (by have := HB2.out.size; simp; omega)))
          clear h40 hG
          go_wp2_with fail
          go_ret2
          rw [HRN.out]
          exact ⟨rfl, HB3.out⟩
        | false =>
          have hv := unV_yes hok
          rw [hm] at hv
          rw [hv] at HH
          obtain ⟨hz, hz1, hz2⟩ := szX_pos hok hm
          have hgood : goodX x (t - a) = decide (szX x ≤ t - a) := by unfold goodX; rw [hok, hm]; rfl
          obtain ⟨sz, hsz⟩ : ∃ sz, sz = szX x := ⟨_, rfl⟩
          obtain ⟨room, hroom⟩ : ∃ r, r = t - a := ⟨_, rfl⟩
          rw [← hsz] at hz hz1 hz2
          have hst2 := HST.out
          rw [hgood, ← hsz, ← hroom] at hst2
          have d1 : (t : Int) - (a : Int) = (room : Int) := by omega
          have d2 : (room : Int) ≤ 100000 := by omega
          have d3 : (0 : Int) ≤ (room : Int) := by omega
          have HZ := Lib.hid (fun W => size_c (fP x) (fB x) false (fT x) W)
          rw [hz] at HZ
          have HZZ := Lib.hid hz
          have HD := Lib.hid (And.intro d1 (And.intro d2 d3))
          have HST2 := Lib.hid hst2
          have hz3 : (sz : Int) ≤ 1000 := by omega
          have HS1 := Lib.hid hz1
          have HSL := Lib.hid HPW.out.blk.lt
          clear hv hok hm hz hz2 hgood hsz hst2 HST hz1 d1 d2 d3
          go_wp2_with fail
          refine Calls.mono HH.out ?_
          rintro r w2 ⟨rfl, b2⟩
          have HB2 := Lib.hid (hB.trans (b2.mono hB.size))
          have hk2 := Bk.new w2 60 #[.int .i64 (fP x), .int .i64 (fB x), .bool false, .int .i64 (fT x)]
          have HK2 := Lib.hid hk2
          have hb3 := Gw.alloc w2 (.cells #[.int .i64 (fP x), .int .i64 (fB x), .bool false, .int .i64 (fT x)] 60)
          have HB3 := Lib.hid (HB2.out.trans (hb3.mono HB2.out.size))
          have hw3 : (w2.alloc (.cells #[.int .i64 (fP x), .int .i64 (fB x), .bool false, .int .i64 (fT x)] 60)).cell? ⟨s, 2, none⟩ = some (.int .i64 t) := ((HPW.out.below b2).below hb3).four.2.2.1
          have HS3 : Hid (s < (w2.alloc (.cells #[.int .i64 (fP x), .int .i64 (fB x), .bool false, .int .i64 (fT x)] 60)).heap.size) := Lib.hid ((HPW.out.below b2).below hb3).blk.lt
          have HW3 := Lib.hid hw3
          have HO2 := Lib.hid ((HO.out.below b2).alloc (.cells #[.int .i64 (fP x), .int .i64 (fB x), .bool false, .int .i64 (fT x)] 60))
          have hol : ∀ k, u4.ownBlock = some k → k < w2.heap.size := fun k e => ((HO.out.below b2).lt k e).2
          have HOL := Lib.hid hol
          clear b2 hk2 hb3 hw3 hol
          go_wp2_with fail
          by_cases hfit : sz ≤ room
          · refine obj_s _ _ _ w2.heap.size s a t room sz (fP x) (fB x) (fT x) false HK2.out HS3.out HW3.out HZZ.out HD.out.1 HD.out.2.1 HD.out.2.2 (by simp; omega) rfl rfl rfl rfl rfl ?_
            intro vals w3 hG h40
            unfold IsV at h40
            simp only [putD, Act.put, List.setIfInBounds_toArray, List.set_cons_zero, List.set_cons_succ, h40]
            have hk3 := HK2.out.below hG HK2.out.lt
            obtain ⟨k0, k1, k2, k3⟩ := hk3.four
            have ho3 := HO2.out.below hG
            obtain ⟨A3, m3, n3, rfl⟩ : ∃ A m n, u4 = Value.slice A m n := by
              obtain ⟨A, c, e, _⟩ := ho3.form
              exact ⟨A, _, c, e⟩
            have HB4 := Lib.hid (HB3.out.trans (hG.mono HB3.out.size))
            have hsz4 := HB4.out.size
            have hlen : pre.length + 1 ≤ 4294967296 := by have := hpl.out; omega
            have hRn : R = (objF ws t m (a + sz)).map ((pre ++ [a]) ++ ·) := by
              have h := HST2.out
              have hd : decide (sz ≤ room) = true := by simp [hfit]
              rw [if_pos hd] at h
              rw [h]
              cases objF ws t m (a + sz) with
              | none => rfl
              | some l => simp
            have HRn := Lib.hid hRn
            have HK3 := Lib.hid hk3
            have HNE : Hid (some w2.heap.size ≠ (Value.slice A3 m3 n3).ownBlock) := Lib.hid (fun e => by have := HOL.out _ e.symm; omega)
            clear h40 hG hk3 hRn k0 k1 k2 k3
            go_wp2_with (at_builtin; refine wp_app oneI iN_one rfl (.tmp 41) (.tmp 43) rfl w.heap.size _ pre rfl (ho3.alloc _) (some ⟨w3.heap.size, 0, none⟩) 1 1 [a] rfl rfl (w3.heap.size + 1) (rd1_new rfl) hlen (by decide) (by simp; omega) ?_; intro v5 w5 ho5 hb5 hg5 _; have hk5 := bk_kept HK3.out hg5 HNE.out; obtain ⟨k0, k1, k2, k3⟩ := hk5.four)
            have HB5 := Lib.hid ((HB4.out.alloc hsz4 _).trans hb5)
            have HO5 := Lib.hid ho5
            have HZ5 := Lib.hid (HZ.out w5)
            obtain ⟨a2, ha2⟩ : ∃ a2, a2 = a + sz := ⟨_, rfl⟩
            have e2 : (a : Int) + (sz : Int) = (a2 : Int) := by omega
            have e3 : (a2 : Int) ≤ 200000 := by omega
            have e4 : (0 : Int) ≤ (a2 : Int) := by omega
            have HA2 := Lib.hid ha2
            clear hk5 ho5 hb5 hg5 ha2 HK3 HOL
            go_wp2_with fail
            refine Calls.mono HZ5.out ?_
            rintro r w6 ⟨rfl, b6⟩
            have HB6 := Lib.hid (HB5.out.trans (b6.mono HB5.out.size))
            have HO6 := Lib.hid (HO5.out.below b6)
            clear b6 HO5 HB5
            go_wp2_with fail
            go_roundw
            case rel =>
              refine ⟨m, a2, pre ++ [a], rfl, Lib.hid ?_, Lib.hid ?_, Lib.hid ?_, Lib.hid ?_, HO6.out, HB6.out⟩
              · have := HA2.out; have := hba.out; omega
              · have := HA2.out; have := htn.out; have := HS1.out; omega
              · rw [HA2.out]; exact HRn.out
              · have := HA2.out; have := hpl.out; have := HS1.out; rw [List.length_append]; simp; omega
            case measure => have := HA2.out; have := HS1.out; simp [Go.RowKit.intOf]; omega
          · refine obj_s _ _ _ w2.heap.size s a t room sz (fP x) (fB x) (fT x) true HK2.out HS3.out HW3.out HZZ.out HD.out.1 HD.out.2.1 HD.out.2.2 (by simp; omega) rfl rfl rfl rfl rfl ?_
            intro vals w3 hG h40
            unfold IsV at h40
            simp only [putD, Act.put, List.setIfInBounds_toArray, List.set_cons_zero, List.set_cons_succ, h40]
            have HB4 := Lib.hid (HB3.out.trans (hG.mono HB3.out.size))
            have hbad : R = none := by
              rw [HST2.out]
              have hd : decide (sz ≤ room) = false := by simp; omega
              rw [hd]
              rfl
            have HRN := Lib.hid hbad
            clear h40 hG hbad
            go_wp2_with fail
            go_ret2
            rw [HRN.out]
            exact ⟨rfl, HB4.out⟩
    · have hend := objF_end ws t n a hlt
      have h := hre.out
      rw [hend] at h
      have h2 : R = some pre := by rw [h]; simp
      have HO := Lib.hid ho
      have HR2 := Lib.hid h2
      clear hend h h2 ho hp
      go_wp2_with fail
      go_ret2
      rw [HR2.out]
      exact MkEP.of HO.out hB
end Go.Proofs.YtfodefgihicafaaDoor
