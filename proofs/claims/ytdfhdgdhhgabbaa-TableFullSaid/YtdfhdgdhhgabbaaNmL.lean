/- What loamlaw19.known answers. No conditions. -/
import Derived.Test.YtdfhdgdhhgabbaaNmT
import Derived.Test.YtdfhdgdhhgabbaaRegL
import Derived.Deep.CutRange
namespace Go.Proofs.Ytdfhdgdhhgabbaa
set_option linter.unusedVariables false
set_option linter.unusedSimpArgs false
open Go.RowKit Go.Maps
set_option maxHeartbeats 8000000
set_option maxRecDepth 100000
def abT : Nm := [97#8, 98#8]
def abN : Nm := padN abT
theorem ab_good : goodN abT := ⟨by decide, by decide, by decide⟩
theorem ab_w : nW abN := padN_w ab_good.2.1
theorem ab_str : strB abT = ⟨#[97, 98]⟩ := rfl
theorem ab_cut : strB (cutN abN) = ⟨#[97, 98]⟩ := by rw [abN, good_cut ab_good]; rfl
theorem k19_f1 (w : World) : Calls Try.prog 8 #[.string ⟨#[97, 98]⟩] w (RetP (.tuple #[.agg (nC abN), .int .i64 0]) w) := fix_ok abT w ab_good
theorem k19_f2 (w : World) : Calls Try.prog 8 #[.string ⟨#[]⟩] w (RetP (.tuple #[.agg (nC zN), .int .i64 4]) w) := fix_bad [] w (fun h => absurd h.1 (by simp))
/-- Unbind: what is turned is the map alone. -/
theorem unbind_m {w : World} {g : Nat} {m : Tb} {mb : Option Nat} (h1 : Bk w g 34 #[.map mb]) (h2 : NmO w mb m) (hne : ∀ b, mb = some b → b ≠ g) (k : Nm) (hk : nW k) (x : Int) (ok : Bool) (hx : (vOf m k).getD 0 = x) (ho : (vOf m k).isSome = ok) : Calls Try.prog 14 #[.pointer (some ⟨g, 0, none⟩), nV k] w fun e w' => e = .returned (.tuple #[.int .i64 x, .bool ok]) ∧ Bk w' g 34 #[.map mb] ∧ NmO w' mb (delN m k) ∧ Kept (fun c => mb = some c) w w' := by
  have hl := h2.lkf hk
  rw [hx, ho] at hl
  have hs := nC_size hk
  have HM := Lib.hid (And.intro h2 hne)
  have HK := Lib.hid hk
  unfold nV
  obtain ⟨arr, harr⟩ : ∃ arr, arr = nC k := ⟨_, rfl⟩
  rw [← harr] at hl hs ⊢
  have HA := Lib.hid harr
  have HL := Lib.hid hl
  have HG := Lib.hid h1
  have HS := Lib.hid hs
  clear hl hs harr h1 h2 hne hx ho hk
  have HQ := Lib.hid (Bk.new w 24 arr)
  have HW := Lib.hid (Gw.alloc w (.cells arr 24))
  have HL1 := Lib.hid (show LkF (w.alloc (.cells arr 24)) mb arr x ok from fun W hb => HL.out W (HW.out.trans (hb.mono (by simp))))
  go_enter Try.func14, Try.ntmps14
  go_wp2_with fail
  refine ub_reg _ _ _ g w.heap.size mb arr x ok HS.out (HG.out.below HW.out HG.out.lt) HQ.out HL1 rfl rfl rfl ?_
  intro vals w1 hG h6 h7
  unfold IsV at h6 h7
  simp only [putD, Act.put, List.setIfInBounds_toArray, List.set_cons_zero, List.set_cons_succ, h6, h7]
  have HB := Lib.hid (HW.out.trans (hG.mono (by simp)))
  have HQ1 := Lib.hid (HQ.out.below hG HQ.out.lt)
  clear h6 h7 hG HQ HL HL1
  go_wp2_with fail
  refine ud_reg _ _ _ g w.heap.size mb arr HS.out (HG.out.below HB.out HG.out.lt) HQ1.out rfl rfl rfl ?_
  intro vals w2 hG h20 h21
  unfold IsV at h20 h21
  simp only [putD, Act.put, List.setIfInBounds_toArray, List.set_cons_zero, List.set_cons_succ, h20, h21]
  have HB2 := Lib.hid (HB.out.trans (hG.mono HB.out.size))
  clear h20 h21 hG
  have HM2 := Lib.hid (HM.out.1.kept (Kept.of_below HB2.out (fun _ => False)) (fun _ _ f => f))
  go_wp2_with (refine wp_delN rfl _ _ rfl rfl HM2.out k (by rw [nV, ← HA.out]; rfl) HK.out ?_; intro w3 hm3 hk3; have HM3 := Lib.hid (And.intro hm3 hk3); clear hm3 hk3)
  go_ret2
  have hb := HM3.out.2
  have hg2 := HG.out.below HB2.out HG.out.lt
  exact ⟨rfl, hb.bk hg2 (fun e => HM.out.2 g e rfl), HM3.out.1, (Kept.of_below HB2.out _).trans hb⟩
section
variable {B : Nat} {w : World} {g : Nat}
theorem k19_b1 (h : TbX B w g []) (hB : B ≤ w.heap.size) : Calls Try.prog 13 #[.pointer (some ⟨g, 0, none⟩), .agg (nC abN), .int .i64 5] w (TbP B w g [(abN, 5)] (.tuple #[.int .i64 0, .int .i64 0])) :=
  bind_ok h hB abT ab_good 5 (by decide) (by decide) (by decide) (.inr (by decide))
theorem set_one (k : Nm) (a b : Int) : setN [(k, a)] k b = [(k, b)] := by unfold setN; rw [if_pos rfl]
theorem vOf_one (k : Nm) (a : Int) : vOf [(k, a)] k = some a := by unfold vOf; rw [if_pos rfl]
theorem k19_b2 (h : TbX B w g [(abN, 5)]) (hB : B ≤ w.heap.size) : Calls Try.prog 13 #[.pointer (some ⟨g, 0, none⟩), .agg (nC abN), .int .i64 6] w (TbP B w g [(abN, 6)] (.tuple #[.int .i64 5, .int .i64 0])) := by
  have := bind_ok h hB abT ab_good 6 (by decide) (by decide) (by simp) (.inr (by simp))
  rw [show padN abT = abN from rfl, set_one, vOf_one] at this
  exact this
theorem k19_l (h : TbX B w g [(abN, 6)]) : Calls Try.prog 15 #[.pointer (some ⟨g, 0, none⟩), .agg (nC abN)] w (RetP (.tuple #[.int .i64 6, .bool true]) w) :=
  look_c h abN ab_w 6 true (by rw [vOf_one]; rfl) (by rw [vOf_one]; rfl)
theorem k19_u {mb : Option Nat} (h1 : Bk w g 34 #[.map mb]) (h2 : NmO w mb [(abN, 6)]) (hne : ∀ b, mb = some b → b ≠ g) : Calls Try.prog 14 #[.pointer (some ⟨g, 0, none⟩), .agg (nC abN)] w fun e w' => e = .returned (.tuple #[.int .i64 6, .bool true]) ∧ Bk w' g 34 #[.map mb] ∧ NmO w' mb [] ∧ Kept (fun c => mb = some c) w w' := by
  have := unbind_m h1 h2 hne abN ab_w 6 true (by rw [vOf_one]; rfl) (by rw [vOf_one]; rfl)
  rw [show delN [(abN, (6 : Int))] abN = [] from by simp [delN]] at this
  exact this
theorem TbX.new (w : World) : TbX w.heap.size (w.alloc (.cells #[.map none] 34)) w.heap.size [] :=
  ⟨none, Bk.new w _ _, rfl, Nat.le_refl _, fun b e => by cases e⟩
end
theorem cell_ltN {w : World} {a : Addr} {v : Value} (h : w.cell? a = some v) : a.block < w.heap.size := by
  rcases Nat.lt_or_ge a.block w.heap.size with hl | hl
  · exact hl
  · unfold World.cell? at h; rw [Array.getElem?_eq_none hl] at h; cases h
theorem stop_dst {P : Program} {ops : Array Oper} {rest : List Oper} {o : Oper} {a : Act} {w : World} {Q : Exit → Act → World → Prop} {d : Nat} (_ho : o.dst = some d) (h : wpList P ops Q (o :: rest) a w ∧ True) : wpList P ops Q (o :: rest) a w := h.1
theorem k19_end (Q : Exit → Act → World → Prop) (a0 : Act) (w : World) (g1 q9 c9 g : Nat) (arr : Array Value) (hs : arr.size = 32) (HK : Hid (Bk w g1 24 arr)) (HR : Hid (w.cell? ⟨q9, 0, none⟩ = some (.string ⟨#[97, 98]⟩) ∧ w.cell? ⟨q9, 1, none⟩ = some (.int .i64 6))) (HT : Hid (TbX 0 w g [])) (HST : Hid (∀ W, Calls Try.prog 10 #[.agg arr] W (RetP (.string ⟨#[97, 98]⟩) W))) (hA0 : arr[0]? = some (.int .u8 97)) (hA2 : arr[2]? = some (.int .u8 0)) (ops0 : Array Oper) (rest : List Oper) (hops : ops0 = regIn Try.f7 9) (hrest : rest = cutOps 0 (regIn Try.f7 9)) (hsz : a0.tmps.size = 114) (sl1 : a0.tmps.getD 1 undef = .pointer (some ⟨g1, 0, none⟩)) (sl2 : a0.tmps.getD 2 undef = .int .i64 0) (sl4 : a0.tmps.getD 4 undef = .int .i64 4) (sl5 : a0.tmps.getD 5 undef = .pointer (some ⟨g, 0, none⟩)) (sl6 : a0.tmps.getD 6 undef = .int .i64 0) (sl7 : a0.tmps.getD 7 undef = .int .i64 0) (sl8 : a0.tmps.getD 8 undef = .int .i64 5) (sl9 : a0.tmps.getD 9 undef = .int .i64 0) (sl10 : a0.tmps.getD 10 undef = .int .i64 6) (sl11 : a0.tmps.getD 11 undef = .bool true) (sl12 : a0.tmps.getD 12 undef = .slice (some ⟨q9, 0, none⟩) 1 c9) (sl13 : a0.tmps.getD 13 undef = .int .i64 6) (sl14 : a0.tmps.getD 14 undef = .bool true)
    (fin : ∀ (vals : Nat → Value) (w1 : World), Below w.heap.size w w1 → (IsV (.bool true)) (vals 70) w1 → Q .normal (putD vals [44, 45, 46, 47, 48, 49, 50, 51, 52, 53, 54, 55, 56, 57, 58, 59, 60, 61, 62, 63, 64, 65, 66, 67, 68, 69, 70, 71, 72, 73, 74, 75, 76, 77, 78, 79, 80, 81, 82, 83, 84, 85, 86, 87, 88, 89, 90, 91, 92, 93, 94, 95, 96, 97, 98, 99, 100, 101, 102, 103, 104, 105, 106, 107, 108, 109, 110, 111, 112, 113, 0] 0 a0) w1) :
    wpList Try.prog ops0 Q rest a0 w := by
  subst hops
  refine list_by0 (ops := fullOps 0 (regIn Try.f7 9)) (k := 0) (G := fun w w1 => Below w.heap.size w w1) [IsV (.int .i64 0),
    IsV (.int .i64 0),
    IsV (.int .i64 0),
    IsV (.int .i64 0),
    IsV (.int .i64 0),
    IsV (.bool true),
    IsV (.bool true),
    IsV (.int .i64 4),
    IsV (.bool true),
    IsV (.bool true),
    IsV (.bool true),
    IsV (.agg arr),
    IsV (.string ⟨#[97, 98]⟩),
    IsV (.bool true),
    IsV (.bool true),
    IsV (.bool true),
    IsV (.pointer (some ⟨g1, 0, none⟩)),
    IsV (.int .u8 97),
    IsV (.bool true),
    IsV (.bool true),
    IsV (.bool true),
    IsV (.pointer (some ⟨g1, 2, none⟩)),
    IsV (.int .u8 0),
    IsV (.bool true),
    IsV (.bool true),
    IsV (.bool true),
    IsV (.int .i64 0),
    IsV (.bool true),
    IsV (.bool true),
    IsV (.bool true),
    IsV (.int .i64 5),
    IsV (.bool true),
    IsV (.bool true),
    IsV (.bool true),
    IsV (.int .i64 6),
    IsV (.bool true),
    IsV (.bool true),
    IsV (.bool true),
    IsV (.bool true),
    IsV (.bool true),
    IsV (.bool true),
    IsV (.slice (some ⟨q9, 0, none⟩) 1 c9),
    IsV (.int .i64 1),
    IsV (.bool true),
    IsV (.bool true),
    IsV (.bool true),
    IsV (.slice (some ⟨q9, 0, none⟩) 1 c9),
    IsV (.pointer (some ⟨q9, 0, none⟩)),
    IsV (.pointer (some ⟨q9, 0, none⟩)),
    IsV (.string ⟨#[97, 98]⟩),
    IsV (.bool true),
    IsV (.bool true),
    IsV (.bool true),
    IsV (.slice (some ⟨q9, 0, none⟩) 1 c9),
    IsV (.pointer (some ⟨q9, 0, none⟩)),
    IsV (.pointer (some ⟨q9, 1, none⟩)),
    IsV (.int .i64 6),
    IsV (.bool true),
    IsV (.bool true),
    IsV (.bool true),
    IsV (.int .i64 6),
    IsV (.bool true),
    IsV (.bool true),
    IsV (.bool true),
    IsV (.bool true),
    IsV (.bool true),
    IsV (.bool true),
    IsV (.int .i64 0),
    IsV (.bool true),
    IsV (.bool true),
    IsV (.bool true)]
    [44, 45, 46, 47, 48, 49, 50, 51, 52, 53, 54, 55, 56, 57, 58, 59, 60, 61, 62, 63, 64, 65, 66, 67, 68, 69, 70, 71, 72, 73, 74, 75, 76, 77, 78, 79, 80, 81, 82, 83, 84, 85, 86, 87, 88, 89, 90, 91, 92, 93, 94, 95, 96, 97, 98, 99, 100, 101, 102, 103, 104, 105, 106, 107, 108, 109, 110, 111, 112, 113, 0] rfl hrest (by kernel_rfl) (Gw.rfl_ _) Gw.trans (by rw [hsz]; kernel_rfl) (by kernel_rfl) ?_ ?_ ?_
  · intro f hf
    simp only [List.mem_cons, List.not_mem_nil, or_false] at hf
    rcases hf with rfl | rfl | rfl | rfl | rfl | rfl | rfl | rfl | rfl | rfl | rfl | rfl | rfl | rfl | rfl | rfl | rfl | rfl | rfl | rfl | rfl | rfl | rfl | rfl | rfl | rfl | rfl | rfl | rfl | rfl | rfl | rfl | rfl | rfl | rfl | rfl | rfl | rfl | rfl | rfl | rfl | rfl | rfl | rfl | rfl | rfl | rfl | rfl | rfl | rfl | rfl | rfl | rfl | rfl | rfl | rfl | rfl | rfl | rfl | rfl | rfl | rfl | rfl | rfl | rfl | rfl | rfl | rfl | rfl | rfl | rfl <;> intro v a b h g <;> first | exact IsV.mono h
  · refine ⟨?_, ?_, ?_, ?_, ?_, ?_, ?_, ?_, ?_, ?_, ?_, ?_, ?_, ?_, ?_, ?_, ?_, ?_, ?_, ?_, ?_, ?_, ?_, ?_, ?_, ?_, ?_, ?_, ?_, ?_, ?_, ?_, ?_, ?_, ?_, ?_, ?_, ?_, ?_, ?_, ?_, ?_, ?_, ?_, ?_, ?_, ?_, ?_, ?_, ?_, ?_, ?_, ?_, ?_, ?_, ?_, ?_, ?_, ?_, ?_, ?_, ?_, ?_, ?_, ?_, ?_, ?_, ?_, ?_, ?_, ?_, trivial⟩
    · exact owes_mv 2 (by kernel_rfl) (by kernel_rfl) (by kernel_rfl) sl2 (fun _ => rfl)
    · exact owes_mv 7 (by kernel_rfl) (by kernel_rfl) (by kernel_rfl) sl7 (fun _ => rfl)
    · refine owes_v (Go.Op.binOp Go.BinOp.add 3 (Go.Operand.tmp 44) (Go.Operand.tmp 45) 3) 3 [0, 1] (by kernel_rfl) (by kernel_rfl) (by kernel_rfl) rfl fun vals w1 ρ hG hF hρ hcst hfun => ?_
      have e44 : ρ (.tmp 44) = .int .i64 0 := ((hρ 44).trans (slotJ [0, 1] (by rw [hsz]; decide) (by kernel_rfl))).trans (hF 0 (by decide))
      have e45 : ρ (.tmp 45) = .int .i64 0 := ((hρ 45).trans (slotJ [0, 1] (by rw [hsz]; decide) (by kernel_rfl))).trans (hF 1 (by decide))
      clear hρ hF hcst hfun sl1 sl2 sl4 sl5 sl6 sl7 sl8 sl9 sl10 sl11 sl12 sl13 sl14 fin
      exact opv_val (by go_simp <;> rfl) ⟨gw_self _, rfl⟩
    · exact owes_mv 9 (by kernel_rfl) (by kernel_rfl) (by kernel_rfl) sl9 (fun _ => rfl)
    · refine owes_v (Go.Op.binOp Go.BinOp.add 3 (Go.Operand.tmp 46) (Go.Operand.tmp 47) 3) 3 [2, 3] (by kernel_rfl) (by kernel_rfl) (by kernel_rfl) rfl fun vals w1 ρ hG hF hρ hcst hfun => ?_
      have e46 : ρ (.tmp 46) = .int .i64 0 := ((hρ 46).trans (slotJ [2, 3] (by rw [hsz]; decide) (by kernel_rfl))).trans (hF 2 (by decide))
      have e47 : ρ (.tmp 47) = .int .i64 0 := ((hρ 47).trans (slotJ [2, 3] (by rw [hsz]; decide) (by kernel_rfl))).trans (hF 3 (by decide))
      clear hρ hF hcst hfun sl1 sl2 sl4 sl5 sl6 sl7 sl8 sl9 sl10 sl11 sl12 sl13 sl14 fin
      exact opv_val (by go_simp <;> rfl) ⟨gw_self _, rfl⟩
    · refine owes_v (Go.Op.binOp Go.BinOp.eql 3 (Go.Operand.tmp 48) (Go.Operand.const (Go.Value.int Go.IntKind.i64 0)) 3) 4 [4] (by kernel_rfl) (by kernel_rfl) (by kernel_rfl) rfl fun vals w1 ρ hG hF hρ hcst hfun => ?_
      have e48 : ρ (.tmp 48) = .int .i64 0 := ((hρ 48).trans (slotJ [4] (by rw [hsz]; decide) (by kernel_rfl))).trans (hF 4 (by decide))
      clear hρ hF hfun sl1 sl2 sl4 sl5 sl6 sl7 sl8 sl9 sl10 sl11 sl12 sl13 sl14 fin
      exact opv_val (by go_simp <;> rfl) ⟨gw_self _, rfl⟩
    · exact owes_mvj 5 49 (by kernel_rfl) (by kernel_rfl) (by kernel_rfl) (by kernel_rfl) (by rw [hsz]; decide) (fun v w h => h)
    · refine owes_vt 6 true (Go.Op.move (Go.Operand.tmp 4)) 25 [] (by kernel_rfl) (by kernel_rfl) (by kernel_rfl) (fun _ _ h => h) (by rw [hsz]; kernel_rfl) (by kernel_rfl) rfl fun vals w1 ρ hG hF hρ hcst hfun => ?_
      have e4 : ρ (.tmp 4) = .int .i64 4 := ((hρ 4).trans (slotO [] (by kernel_rfl))).trans sl4
      clear hρ hF hcst hfun sl1 sl2 sl4 sl5 sl6 sl7 sl8 sl9 sl10 sl11 sl12 sl13 sl14 fin
      exact opv_val (by go_simp <;> rfl) ⟨gw_self _, rfl⟩
    · refine owes_vt 6 true (Go.Op.binOp Go.BinOp.eql 3 (Go.Operand.tmp 51) (Go.Operand.const (Go.Value.int Go.IntKind.i64 4)) 3) 4 [7] (by kernel_rfl) (by kernel_rfl) (by kernel_rfl) (fun _ _ h => h) (by rw [hsz]; kernel_rfl) (by kernel_rfl) rfl fun vals w1 ρ hG hF hρ hcst hfun => ?_
      have e51 : ρ (.tmp 51) = .int .i64 4 := ((hρ 51).trans (slotJ [7] (by rw [hsz]; decide) (by kernel_rfl))).trans (hF 7 (by decide))
      clear hρ hF hfun sl1 sl2 sl4 sl5 sl6 sl7 sl8 sl9 sl10 sl11 sl12 sl13 sl14 fin
      exact opv_val (by go_simp <;> rfl) ⟨gw_self _, rfl⟩
    · refine owes_v (Go.Op.pick (Go.Operand.tmp 50) (Go.Operand.tmp 52) (Go.Operand.const (Go.Value.bool false))) 4 [6, 8] (by kernel_rfl) (by kernel_rfl) (by kernel_rfl) rfl fun vals w1 ρ hG hF hρ hcst hfun => ?_
      have e50 : ρ (.tmp 50) = .bool true := ((hρ 50).trans (slotJ [6, 8] (by rw [hsz]; decide) (by kernel_rfl))).trans (hF 6 (by decide))
      have e52 : ρ (.tmp 52) = .bool true := ((hρ 52).trans (slotJ [6, 8] (by rw [hsz]; decide) (by kernel_rfl))).trans (hF 8 (by decide))
      clear hρ hF hfun sl1 sl2 sl4 sl5 sl6 sl7 sl8 sl9 sl10 sl11 sl12 sl13 sl14 fin
      exact opv_val (by go_simp <;> rfl) ⟨gw_self _, rfl⟩
    · exact owes_mvj 9 53 (by kernel_rfl) (by kernel_rfl) (by kernel_rfl) (by kernel_rfl) (by rw [hsz]; decide) (fun v w h => h)
    · refine owes_vt 10 true (Go.Op.load 24 (Go.Operand.tmp 1)) 24 [] (by kernel_rfl) (by kernel_rfl) (by kernel_rfl) (fun _ _ h => h) (by rw [hsz]; kernel_rfl) (by kernel_rfl) rfl fun vals w1 ρ hG hF hρ hcst hfun => ?_
      have e1 : ρ (.tmp 1) = .pointer (some ⟨g1, 0, none⟩) := ((hρ 1).trans (slotO [] (by kernel_rfl))).trans sl1
      clear hρ hF hcst hfun sl1 sl2 sl4 sl5 sl6 sl7 sl8 sl9 sl10 sl11 sl12 sl13 sl14 fin
      exact opv_loadN e1 (HK.out.below hG HK.out.lt) hs
    · refine owes_vt 10 true (Go.Op.call { callee := Go.Callee.value (Go.Operand.func 10), args := #[Go.Operand.tmp 55], argTypes := #[24] }) 9 [11] (by kernel_rfl) (by kernel_rfl) (by kernel_rfl) (fun _ _ h => h) (by rw [hsz]; kernel_rfl) (by kernel_rfl) rfl fun vals w1 ρ hG hF hρ hcst hfun => ?_
      have e55 : ρ (.tmp 55) = .agg arr := ((hρ 55).trans (slotJ [11] (by rw [hsz]; decide) (by kernel_rfl))).trans (hF 11 (by decide))
      clear hρ hF hcst sl1 sl2 sl4 sl5 sl6 sl7 sl8 sl9 sl10 sl11 sl12 sl13 sl14 fin
      exact opv_enter (by go_simp <;> rfl) (of_retN (HST.out w1))
    · refine owes_vt 10 true (Go.Op.binOp Go.BinOp.eql 9 (Go.Operand.tmp 56) (Go.Operand.const (Go.Value.string { data := #[97, 98] })) 9) 4 [12] (by kernel_rfl) (by kernel_rfl) (by kernel_rfl) (fun _ _ h => h) (by rw [hsz]; kernel_rfl) (by kernel_rfl) rfl fun vals w1 ρ hG hF hρ hcst hfun => ?_
      have e56 : ρ (.tmp 56) = .string ⟨#[97, 98]⟩ := ((hρ 56).trans (slotJ [12] (by rw [hsz]; decide) (by kernel_rfl))).trans (hF 12 (by decide))
      clear hρ hF hfun sl1 sl2 sl4 sl5 sl6 sl7 sl8 sl9 sl10 sl11 sl12 sl13 sl14 fin
      exact opv_val (by go_simp <;> rfl) ⟨gw_self _, rfl⟩
    · refine owes_v (Go.Op.pick (Go.Operand.tmp 54) (Go.Operand.tmp 57) (Go.Operand.const (Go.Value.bool false))) 4 [10, 13] (by kernel_rfl) (by kernel_rfl) (by kernel_rfl) rfl fun vals w1 ρ hG hF hρ hcst hfun => ?_
      have e54 : ρ (.tmp 54) = .bool true := ((hρ 54).trans (slotJ [10, 13] (by rw [hsz]; decide) (by kernel_rfl))).trans (hF 10 (by decide))
      have e57 : ρ (.tmp 57) = .bool true := ((hρ 57).trans (slotJ [10, 13] (by rw [hsz]; decide) (by kernel_rfl))).trans (hF 13 (by decide))
      clear hρ hF hfun sl1 sl2 sl4 sl5 sl6 sl7 sl8 sl9 sl10 sl11 sl12 sl13 sl14 fin
      exact opv_val (by go_simp <;> rfl) ⟨gw_self _, rfl⟩
    · exact owes_mvj 14 58 (by kernel_rfl) (by kernel_rfl) (by kernel_rfl) (by kernel_rfl) (by rw [hsz]; decide) (fun v w h => h)
    · refine owes_vt 15 true (Go.Op.indexAddr 24 (Go.Operand.tmp 1) (Go.Operand.const (Go.Value.int Go.IntKind.i64 0))) 0 [] (by kernel_rfl) (by kernel_rfl) (by kernel_rfl) (fun _ _ h => h) (by rw [hsz]; kernel_rfl) (by kernel_rfl) rfl fun vals w1 ρ hG hF hρ hcst hfun => ?_
      have e1 : ρ (.tmp 1) = .pointer (some ⟨g1, 0, none⟩) := ((hρ 1).trans (slotO [] (by kernel_rfl))).trans sl1
      clear hρ hF hfun sl1 sl2 sl4 sl5 sl6 sl7 sl8 sl9 sl10 sl11 sl12 sl13 sl14 fin
      exact opv_val (by go_simp <;> rfl) ⟨gw_self _, rfl⟩
    · refine owes_vt 15 true (Go.Op.load 5 (Go.Operand.tmp 60)) 5 [16] (by kernel_rfl) (by kernel_rfl) (by kernel_rfl) (fun _ _ h => h) (by rw [hsz]; kernel_rfl) (by kernel_rfl) rfl fun vals w1 ρ hG hF hρ hcst hfun => ?_
      have e60 : ρ (.tmp 60) = .pointer (some ⟨g1, 0, none⟩) := ((hρ 60).trans (slotJ [16] (by rw [hsz]; decide) (by kernel_rfl))).trans (hF 16 (by decide))
      have k0 := ((HK.out.below hG HK.out.lt).cell 0).trans hA0
      clear hρ hF hcst hfun sl1 sl2 sl4 sl5 sl6 sl7 sl8 sl9 sl10 sl11 sl12 sl13 sl14 fin
      exact opv_val (by go_simp <;> rfl) ⟨gw_self _, rfl⟩
    · refine owes_vt 15 true (Go.Op.binOp Go.BinOp.eql 5 (Go.Operand.tmp 61) (Go.Operand.const (Go.Value.int Go.IntKind.u8 97)) 5) 4 [17] (by kernel_rfl) (by kernel_rfl) (by kernel_rfl) (fun _ _ h => h) (by rw [hsz]; kernel_rfl) (by kernel_rfl) rfl fun vals w1 ρ hG hF hρ hcst hfun => ?_
      have e61 : ρ (.tmp 61) = .int .u8 97 := ((hρ 61).trans (slotJ [17] (by rw [hsz]; decide) (by kernel_rfl))).trans (hF 17 (by decide))
      clear hρ hF hfun sl1 sl2 sl4 sl5 sl6 sl7 sl8 sl9 sl10 sl11 sl12 sl13 sl14 fin
      exact opv_val (by go_simp <;> rfl) ⟨gw_self _, rfl⟩
    · refine owes_v (Go.Op.pick (Go.Operand.tmp 59) (Go.Operand.tmp 62) (Go.Operand.const (Go.Value.bool false))) 4 [15, 18] (by kernel_rfl) (by kernel_rfl) (by kernel_rfl) rfl fun vals w1 ρ hG hF hρ hcst hfun => ?_
      have e59 : ρ (.tmp 59) = .bool true := ((hρ 59).trans (slotJ [15, 18] (by rw [hsz]; decide) (by kernel_rfl))).trans (hF 15 (by decide))
      have e62 : ρ (.tmp 62) = .bool true := ((hρ 62).trans (slotJ [15, 18] (by rw [hsz]; decide) (by kernel_rfl))).trans (hF 18 (by decide))
      clear hρ hF hfun sl1 sl2 sl4 sl5 sl6 sl7 sl8 sl9 sl10 sl11 sl12 sl13 sl14 fin
      exact opv_val (by go_simp <;> rfl) ⟨gw_self _, rfl⟩
    · exact owes_mvj 19 63 (by kernel_rfl) (by kernel_rfl) (by kernel_rfl) (by kernel_rfl) (by rw [hsz]; decide) (fun v w h => h)
    · refine owes_vt 20 true (Go.Op.indexAddr 24 (Go.Operand.tmp 1) (Go.Operand.const (Go.Value.int Go.IntKind.i64 2))) 0 [] (by kernel_rfl) (by kernel_rfl) (by kernel_rfl) (fun _ _ h => h) (by rw [hsz]; kernel_rfl) (by kernel_rfl) rfl fun vals w1 ρ hG hF hρ hcst hfun => ?_
      have e1 : ρ (.tmp 1) = .pointer (some ⟨g1, 0, none⟩) := ((hρ 1).trans (slotO [] (by kernel_rfl))).trans sl1
      clear hρ hF hfun sl1 sl2 sl4 sl5 sl6 sl7 sl8 sl9 sl10 sl11 sl12 sl13 sl14 fin
      exact opv_val (by go_simp <;> rfl) ⟨gw_self _, rfl⟩
    · refine owes_vt 20 true (Go.Op.load 5 (Go.Operand.tmp 65)) 5 [21] (by kernel_rfl) (by kernel_rfl) (by kernel_rfl) (fun _ _ h => h) (by rw [hsz]; kernel_rfl) (by kernel_rfl) rfl fun vals w1 ρ hG hF hρ hcst hfun => ?_
      have e65 : ρ (.tmp 65) = .pointer (some ⟨g1, 2, none⟩) := ((hρ 65).trans (slotJ [21] (by rw [hsz]; decide) (by kernel_rfl))).trans (hF 21 (by decide))
      have k0 := ((HK.out.below hG HK.out.lt).cell 2).trans hA2
      clear hρ hF hcst hfun sl1 sl2 sl4 sl5 sl6 sl7 sl8 sl9 sl10 sl11 sl12 sl13 sl14 fin
      exact opv_val (by go_simp <;> rfl) ⟨gw_self _, rfl⟩
    · refine owes_vt 20 true (Go.Op.binOp Go.BinOp.eql 5 (Go.Operand.tmp 66) (Go.Operand.const (Go.Value.int Go.IntKind.u8 0)) 5) 4 [22] (by kernel_rfl) (by kernel_rfl) (by kernel_rfl) (fun _ _ h => h) (by rw [hsz]; kernel_rfl) (by kernel_rfl) rfl fun vals w1 ρ hG hF hρ hcst hfun => ?_
      have e66 : ρ (.tmp 66) = .int .u8 0 := ((hρ 66).trans (slotJ [22] (by rw [hsz]; decide) (by kernel_rfl))).trans (hF 22 (by decide))
      clear hρ hF hfun sl1 sl2 sl4 sl5 sl6 sl7 sl8 sl9 sl10 sl11 sl12 sl13 sl14 fin
      exact opv_val (by go_simp <;> rfl) ⟨gw_self _, rfl⟩
    · refine owes_v (Go.Op.pick (Go.Operand.tmp 64) (Go.Operand.tmp 67) (Go.Operand.const (Go.Value.bool false))) 4 [20, 23] (by kernel_rfl) (by kernel_rfl) (by kernel_rfl) rfl fun vals w1 ρ hG hF hρ hcst hfun => ?_
      have e64 : ρ (.tmp 64) = .bool true := ((hρ 64).trans (slotJ [20, 23] (by rw [hsz]; decide) (by kernel_rfl))).trans (hF 20 (by decide))
      have e67 : ρ (.tmp 67) = .bool true := ((hρ 67).trans (slotJ [20, 23] (by rw [hsz]; decide) (by kernel_rfl))).trans (hF 23 (by decide))
      clear hρ hF hfun sl1 sl2 sl4 sl5 sl6 sl7 sl8 sl9 sl10 sl11 sl12 sl13 sl14 fin
      exact opv_val (by go_simp <;> rfl) ⟨gw_self _, rfl⟩
    · exact owes_mvj 24 68 (by kernel_rfl) (by kernel_rfl) (by kernel_rfl) (by kernel_rfl) (by rw [hsz]; decide) (fun v w h => h)
    · refine owes_vt 25 true (Go.Op.move (Go.Operand.tmp 6)) 3 [] (by kernel_rfl) (by kernel_rfl) (by kernel_rfl) (fun _ _ h => h) (by rw [hsz]; kernel_rfl) (by kernel_rfl) rfl fun vals w1 ρ hG hF hρ hcst hfun => ?_
      have e6 : ρ (.tmp 6) = .int .i64 0 := ((hρ 6).trans (slotO [] (by kernel_rfl))).trans sl6
      clear hρ hF hcst hfun sl1 sl2 sl4 sl5 sl6 sl7 sl8 sl9 sl10 sl11 sl12 sl13 sl14 fin
      exact opv_val (by go_simp <;> rfl) ⟨gw_self _, rfl⟩
    · refine owes_vt 25 true (Go.Op.binOp Go.BinOp.eql 3 (Go.Operand.tmp 70) (Go.Operand.const (Go.Value.int Go.IntKind.i64 0)) 3) 4 [26] (by kernel_rfl) (by kernel_rfl) (by kernel_rfl) (fun _ _ h => h) (by rw [hsz]; kernel_rfl) (by kernel_rfl) rfl fun vals w1 ρ hG hF hρ hcst hfun => ?_
      have e70 : ρ (.tmp 70) = .int .i64 0 := ((hρ 70).trans (slotJ [26] (by rw [hsz]; decide) (by kernel_rfl))).trans (hF 26 (by decide))
      clear hρ hF hfun sl1 sl2 sl4 sl5 sl6 sl7 sl8 sl9 sl10 sl11 sl12 sl13 sl14 fin
      exact opv_val (by go_simp <;> rfl) ⟨gw_self _, rfl⟩
    · refine owes_v (Go.Op.pick (Go.Operand.tmp 69) (Go.Operand.tmp 71) (Go.Operand.const (Go.Value.bool false))) 4 [25, 27] (by kernel_rfl) (by kernel_rfl) (by kernel_rfl) rfl fun vals w1 ρ hG hF hρ hcst hfun => ?_
      have e69 : ρ (.tmp 69) = .bool true := ((hρ 69).trans (slotJ [25, 27] (by rw [hsz]; decide) (by kernel_rfl))).trans (hF 25 (by decide))
      have e71 : ρ (.tmp 71) = .bool true := ((hρ 71).trans (slotJ [25, 27] (by rw [hsz]; decide) (by kernel_rfl))).trans (hF 27 (by decide))
      clear hρ hF hfun sl1 sl2 sl4 sl5 sl6 sl7 sl8 sl9 sl10 sl11 sl12 sl13 sl14 fin
      exact opv_val (by go_simp <;> rfl) ⟨gw_self _, rfl⟩
    · exact owes_mvj 28 72 (by kernel_rfl) (by kernel_rfl) (by kernel_rfl) (by kernel_rfl) (by rw [hsz]; decide) (fun v w h => h)
    · refine owes_vt 29 true (Go.Op.move (Go.Operand.tmp 8)) 3 [] (by kernel_rfl) (by kernel_rfl) (by kernel_rfl) (fun _ _ h => h) (by rw [hsz]; kernel_rfl) (by kernel_rfl) rfl fun vals w1 ρ hG hF hρ hcst hfun => ?_
      have e8 : ρ (.tmp 8) = .int .i64 5 := ((hρ 8).trans (slotO [] (by kernel_rfl))).trans sl8
      clear hρ hF hcst hfun sl1 sl2 sl4 sl5 sl6 sl7 sl8 sl9 sl10 sl11 sl12 sl13 sl14 fin
      exact opv_val (by go_simp <;> rfl) ⟨gw_self _, rfl⟩
    · refine owes_vt 29 true (Go.Op.binOp Go.BinOp.eql 3 (Go.Operand.tmp 74) (Go.Operand.const (Go.Value.int Go.IntKind.i64 5)) 3) 4 [30] (by kernel_rfl) (by kernel_rfl) (by kernel_rfl) (fun _ _ h => h) (by rw [hsz]; kernel_rfl) (by kernel_rfl) rfl fun vals w1 ρ hG hF hρ hcst hfun => ?_
      have e74 : ρ (.tmp 74) = .int .i64 5 := ((hρ 74).trans (slotJ [30] (by rw [hsz]; decide) (by kernel_rfl))).trans (hF 30 (by decide))
      clear hρ hF hfun sl1 sl2 sl4 sl5 sl6 sl7 sl8 sl9 sl10 sl11 sl12 sl13 sl14 fin
      exact opv_val (by go_simp <;> rfl) ⟨gw_self _, rfl⟩
    · refine owes_v (Go.Op.pick (Go.Operand.tmp 73) (Go.Operand.tmp 75) (Go.Operand.const (Go.Value.bool false))) 4 [29, 31] (by kernel_rfl) (by kernel_rfl) (by kernel_rfl) rfl fun vals w1 ρ hG hF hρ hcst hfun => ?_
      have e73 : ρ (.tmp 73) = .bool true := ((hρ 73).trans (slotJ [29, 31] (by rw [hsz]; decide) (by kernel_rfl))).trans (hF 29 (by decide))
      have e75 : ρ (.tmp 75) = .bool true := ((hρ 75).trans (slotJ [29, 31] (by rw [hsz]; decide) (by kernel_rfl))).trans (hF 31 (by decide))
      clear hρ hF hfun sl1 sl2 sl4 sl5 sl6 sl7 sl8 sl9 sl10 sl11 sl12 sl13 sl14 fin
      exact opv_val (by go_simp <;> rfl) ⟨gw_self _, rfl⟩
    · exact owes_mvj 32 76 (by kernel_rfl) (by kernel_rfl) (by kernel_rfl) (by kernel_rfl) (by rw [hsz]; decide) (fun v w h => h)
    · refine owes_vt 33 true (Go.Op.move (Go.Operand.tmp 10)) 3 [] (by kernel_rfl) (by kernel_rfl) (by kernel_rfl) (fun _ _ h => h) (by rw [hsz]; kernel_rfl) (by kernel_rfl) rfl fun vals w1 ρ hG hF hρ hcst hfun => ?_
      have e10 : ρ (.tmp 10) = .int .i64 6 := ((hρ 10).trans (slotO [] (by kernel_rfl))).trans sl10
      clear hρ hF hcst hfun sl1 sl2 sl4 sl5 sl6 sl7 sl8 sl9 sl10 sl11 sl12 sl13 sl14 fin
      exact opv_val (by go_simp <;> rfl) ⟨gw_self _, rfl⟩
    · refine owes_vt 33 true (Go.Op.binOp Go.BinOp.eql 3 (Go.Operand.tmp 78) (Go.Operand.const (Go.Value.int Go.IntKind.i64 6)) 3) 4 [34] (by kernel_rfl) (by kernel_rfl) (by kernel_rfl) (fun _ _ h => h) (by rw [hsz]; kernel_rfl) (by kernel_rfl) rfl fun vals w1 ρ hG hF hρ hcst hfun => ?_
      have e78 : ρ (.tmp 78) = .int .i64 6 := ((hρ 78).trans (slotJ [34] (by rw [hsz]; decide) (by kernel_rfl))).trans (hF 34 (by decide))
      clear hρ hF hfun sl1 sl2 sl4 sl5 sl6 sl7 sl8 sl9 sl10 sl11 sl12 sl13 sl14 fin
      exact opv_val (by go_simp <;> rfl) ⟨gw_self _, rfl⟩
    · refine owes_v (Go.Op.pick (Go.Operand.tmp 77) (Go.Operand.tmp 79) (Go.Operand.const (Go.Value.bool false))) 4 [33, 35] (by kernel_rfl) (by kernel_rfl) (by kernel_rfl) rfl fun vals w1 ρ hG hF hρ hcst hfun => ?_
      have e77 : ρ (.tmp 77) = .bool true := ((hρ 77).trans (slotJ [33, 35] (by rw [hsz]; decide) (by kernel_rfl))).trans (hF 33 (by decide))
      have e79 : ρ (.tmp 79) = .bool true := ((hρ 79).trans (slotJ [33, 35] (by rw [hsz]; decide) (by kernel_rfl))).trans (hF 35 (by decide))
      clear hρ hF hfun sl1 sl2 sl4 sl5 sl6 sl7 sl8 sl9 sl10 sl11 sl12 sl13 sl14 fin
      exact opv_val (by go_simp <;> rfl) ⟨gw_self _, rfl⟩
    · exact owes_mvj 36 80 (by kernel_rfl) (by kernel_rfl) (by kernel_rfl) (by kernel_rfl) (by rw [hsz]; decide) (fun v w h => h)
    · refine owes_vt 37 true (Go.Op.move (Go.Operand.tmp 11)) 4 [] (by kernel_rfl) (by kernel_rfl) (by kernel_rfl) (fun _ _ h => h) (by rw [hsz]; kernel_rfl) (by kernel_rfl) rfl fun vals w1 ρ hG hF hρ hcst hfun => ?_
      have e11 : ρ (.tmp 11) = .bool true := ((hρ 11).trans (slotO [] (by kernel_rfl))).trans sl11
      clear hρ hF hcst hfun sl1 sl2 sl4 sl5 sl6 sl7 sl8 sl9 sl10 sl11 sl12 sl13 sl14 fin
      exact opv_val (by go_simp <;> rfl) ⟨gw_self _, rfl⟩
    · refine owes_v (Go.Op.pick (Go.Operand.tmp 81) (Go.Operand.tmp 82) (Go.Operand.const (Go.Value.bool false))) 4 [37, 38] (by kernel_rfl) (by kernel_rfl) (by kernel_rfl) rfl fun vals w1 ρ hG hF hρ hcst hfun => ?_
      have e81 : ρ (.tmp 81) = .bool true := ((hρ 81).trans (slotJ [37, 38] (by rw [hsz]; decide) (by kernel_rfl))).trans (hF 37 (by decide))
      have e82 : ρ (.tmp 82) = .bool true := ((hρ 82).trans (slotJ [37, 38] (by rw [hsz]; decide) (by kernel_rfl))).trans (hF 38 (by decide))
      clear hρ hF hfun sl1 sl2 sl4 sl5 sl6 sl7 sl8 sl9 sl10 sl11 sl12 sl13 sl14 fin
      exact opv_val (by go_simp <;> rfl) ⟨gw_self _, rfl⟩
    · exact owes_mvj 39 83 (by kernel_rfl) (by kernel_rfl) (by kernel_rfl) (by kernel_rfl) (by rw [hsz]; decide) (fun v w h => h)
    · refine owes_vt 40 true (Go.Op.move (Go.Operand.tmp 12)) 35 [] (by kernel_rfl) (by kernel_rfl) (by kernel_rfl) (fun _ _ h => h) (by rw [hsz]; kernel_rfl) (by kernel_rfl) rfl fun vals w1 ρ hG hF hρ hcst hfun => ?_
      have e12 : ρ (.tmp 12) = .slice (some ⟨q9, 0, none⟩) 1 c9 := ((hρ 12).trans (slotO [] (by kernel_rfl))).trans sl12
      clear hρ hF hcst hfun sl1 sl2 sl4 sl5 sl6 sl7 sl8 sl9 sl10 sl11 sl12 sl13 sl14 fin
      exact opv_val (by go_simp <;> rfl) ⟨gw_self _, rfl⟩
    · refine owes_vt 40 true (Go.Op.call { callee := Go.Callee.builtin Go.Builtin.len, args := #[Go.Operand.tmp 85], argTypes := #[35] }) 3 [41] (by kernel_rfl) (by kernel_rfl) (by kernel_rfl) (fun _ _ h => h) (by rw [hsz]; kernel_rfl) (by kernel_rfl) rfl fun vals w1 ρ hG hF hρ hcst hfun => ?_
      have e85 : ρ (.tmp 85) = .slice (some ⟨q9, 0, none⟩) 1 c9 := ((hρ 85).trans (slotJ [41] (by rw [hsz]; decide) (by kernel_rfl))).trans (hF 41 (by decide))
      clear hρ hF hcst hfun sl1 sl2 sl4 sl5 sl6 sl7 sl8 sl9 sl10 sl11 sl12 sl13 sl14 fin
      exact opv_val (by go_simp <;> rfl) ⟨gw_self _, rfl⟩
    · refine owes_vt 40 true (Go.Op.binOp Go.BinOp.eql 3 (Go.Operand.tmp 86) (Go.Operand.const (Go.Value.int Go.IntKind.i64 1)) 3) 4 [42] (by kernel_rfl) (by kernel_rfl) (by kernel_rfl) (fun _ _ h => h) (by rw [hsz]; kernel_rfl) (by kernel_rfl) rfl fun vals w1 ρ hG hF hρ hcst hfun => ?_
      have e86 : ρ (.tmp 86) = .int .i64 1 := ((hρ 86).trans (slotJ [42] (by rw [hsz]; decide) (by kernel_rfl))).trans (hF 42 (by decide))
      clear hρ hF hfun sl1 sl2 sl4 sl5 sl6 sl7 sl8 sl9 sl10 sl11 sl12 sl13 sl14 fin
      exact opv_val (by go_simp <;> rfl) ⟨gw_self _, rfl⟩
    · refine owes_v (Go.Op.pick (Go.Operand.tmp 84) (Go.Operand.tmp 87) (Go.Operand.const (Go.Value.bool false))) 4 [40, 43] (by kernel_rfl) (by kernel_rfl) (by kernel_rfl) rfl fun vals w1 ρ hG hF hρ hcst hfun => ?_
      have e84 : ρ (.tmp 84) = .bool true := ((hρ 84).trans (slotJ [40, 43] (by rw [hsz]; decide) (by kernel_rfl))).trans (hF 40 (by decide))
      have e87 : ρ (.tmp 87) = .bool true := ((hρ 87).trans (slotJ [40, 43] (by rw [hsz]; decide) (by kernel_rfl))).trans (hF 43 (by decide))
      clear hρ hF hfun sl1 sl2 sl4 sl5 sl6 sl7 sl8 sl9 sl10 sl11 sl12 sl13 sl14 fin
      exact opv_val (by go_simp <;> rfl) ⟨gw_self _, rfl⟩
    · exact owes_mvj 44 88 (by kernel_rfl) (by kernel_rfl) (by kernel_rfl) (by kernel_rfl) (by rw [hsz]; decide) (fun v w h => h)
    · refine owes_vt 45 true (Go.Op.move (Go.Operand.tmp 12)) 35 [] (by kernel_rfl) (by kernel_rfl) (by kernel_rfl) (fun _ _ h => h) (by rw [hsz]; kernel_rfl) (by kernel_rfl) rfl fun vals w1 ρ hG hF hρ hcst hfun => ?_
      have e12 : ρ (.tmp 12) = .slice (some ⟨q9, 0, none⟩) 1 c9 := ((hρ 12).trans (slotO [] (by kernel_rfl))).trans sl12
      clear hρ hF hcst hfun sl1 sl2 sl4 sl5 sl6 sl7 sl8 sl9 sl10 sl11 sl12 sl13 sl14 fin
      exact opv_val (by go_simp <;> rfl) ⟨gw_self _, rfl⟩
    · refine owes_vt 45 true (Go.Op.indexAddr 35 (Go.Operand.tmp 90) (Go.Operand.const (Go.Value.int Go.IntKind.i64 0))) 0 [46] (by kernel_rfl) (by kernel_rfl) (by kernel_rfl) (fun _ _ h => h) (by rw [hsz]; kernel_rfl) (by kernel_rfl) rfl fun vals w1 ρ hG hF hρ hcst hfun => ?_
      have e90 : ρ (.tmp 90) = .slice (some ⟨q9, 0, none⟩) 1 c9 := ((hρ 90).trans (slotJ [46] (by rw [hsz]; decide) (by kernel_rfl))).trans (hF 46 (by decide))
      clear hρ hF hfun sl1 sl2 sl4 sl5 sl6 sl7 sl8 sl9 sl10 sl11 sl12 sl13 sl14 fin
      exact opv_val (by go_simp <;> rfl) ⟨gw_self _, rfl⟩
    · refine owes_vt 45 true (Go.Op.fieldAddr 42 (Go.Operand.tmp 91) 0) 0 [47] (by kernel_rfl) (by kernel_rfl) (by kernel_rfl) (fun _ _ h => h) (by rw [hsz]; kernel_rfl) (by kernel_rfl) rfl fun vals w1 ρ hG hF hρ hcst hfun => ?_
      have e91 : ρ (.tmp 91) = .pointer (some ⟨q9, 0, none⟩) := ((hρ 91).trans (slotJ [47] (by rw [hsz]; decide) (by kernel_rfl))).trans (hF 47 (by decide))
      clear hρ hF hcst hfun sl1 sl2 sl4 sl5 sl6 sl7 sl8 sl9 sl10 sl11 sl12 sl13 sl14 fin
      exact opv_val (by go_simp <;> rfl) ⟨gw_self _, rfl⟩
    · refine owes_vt 45 true (Go.Op.load 9 (Go.Operand.tmp 92)) 9 [48] (by kernel_rfl) (by kernel_rfl) (by kernel_rfl) (fun _ _ h => h) (by rw [hsz]; kernel_rfl) (by kernel_rfl) rfl fun vals w1 ρ hG hF hρ hcst hfun => ?_
      have e92 : ρ (.tmp 92) = .pointer (some ⟨q9, 0, none⟩) := ((hρ 92).trans (slotJ [48] (by rw [hsz]; decide) (by kernel_rfl))).trans (hF 48 (by decide))
      have k0 := (hG.cell (p := ⟨q9, 0, none⟩) (cell_ltN HR.out.1)).trans HR.out.1
      clear hρ hF hcst hfun sl1 sl2 sl4 sl5 sl6 sl7 sl8 sl9 sl10 sl11 sl12 sl13 sl14 fin
      exact opv_val (by go_simp <;> rfl) ⟨gw_self _, rfl⟩
    · refine owes_vt 45 true (Go.Op.binOp Go.BinOp.eql 9 (Go.Operand.tmp 93) (Go.Operand.const (Go.Value.string { data := #[97, 98] })) 9) 4 [49] (by kernel_rfl) (by kernel_rfl) (by kernel_rfl) (fun _ _ h => h) (by rw [hsz]; kernel_rfl) (by kernel_rfl) rfl fun vals w1 ρ hG hF hρ hcst hfun => ?_
      have e93 : ρ (.tmp 93) = .string ⟨#[97, 98]⟩ := ((hρ 93).trans (slotJ [49] (by rw [hsz]; decide) (by kernel_rfl))).trans (hF 49 (by decide))
      clear hρ hF hfun sl1 sl2 sl4 sl5 sl6 sl7 sl8 sl9 sl10 sl11 sl12 sl13 sl14 fin
      exact opv_val (by go_simp <;> rfl) ⟨gw_self _, rfl⟩
    · refine owes_v (Go.Op.pick (Go.Operand.tmp 89) (Go.Operand.tmp 94) (Go.Operand.const (Go.Value.bool false))) 4 [45, 50] (by kernel_rfl) (by kernel_rfl) (by kernel_rfl) rfl fun vals w1 ρ hG hF hρ hcst hfun => ?_
      have e89 : ρ (.tmp 89) = .bool true := ((hρ 89).trans (slotJ [45, 50] (by rw [hsz]; decide) (by kernel_rfl))).trans (hF 45 (by decide))
      have e94 : ρ (.tmp 94) = .bool true := ((hρ 94).trans (slotJ [45, 50] (by rw [hsz]; decide) (by kernel_rfl))).trans (hF 50 (by decide))
      clear hρ hF hfun sl1 sl2 sl4 sl5 sl6 sl7 sl8 sl9 sl10 sl11 sl12 sl13 sl14 fin
      exact opv_val (by go_simp <;> rfl) ⟨gw_self _, rfl⟩
    · exact owes_mvj 51 95 (by kernel_rfl) (by kernel_rfl) (by kernel_rfl) (by kernel_rfl) (by rw [hsz]; decide) (fun v w h => h)
    · refine owes_vt 52 true (Go.Op.move (Go.Operand.tmp 12)) 35 [] (by kernel_rfl) (by kernel_rfl) (by kernel_rfl) (fun _ _ h => h) (by rw [hsz]; kernel_rfl) (by kernel_rfl) rfl fun vals w1 ρ hG hF hρ hcst hfun => ?_
      have e12 : ρ (.tmp 12) = .slice (some ⟨q9, 0, none⟩) 1 c9 := ((hρ 12).trans (slotO [] (by kernel_rfl))).trans sl12
      clear hρ hF hcst hfun sl1 sl2 sl4 sl5 sl6 sl7 sl8 sl9 sl10 sl11 sl12 sl13 sl14 fin
      exact opv_val (by go_simp <;> rfl) ⟨gw_self _, rfl⟩
    · refine owes_vt 52 true (Go.Op.indexAddr 35 (Go.Operand.tmp 97) (Go.Operand.const (Go.Value.int Go.IntKind.i64 0))) 0 [53] (by kernel_rfl) (by kernel_rfl) (by kernel_rfl) (fun _ _ h => h) (by rw [hsz]; kernel_rfl) (by kernel_rfl) rfl fun vals w1 ρ hG hF hρ hcst hfun => ?_
      have e97 : ρ (.tmp 97) = .slice (some ⟨q9, 0, none⟩) 1 c9 := ((hρ 97).trans (slotJ [53] (by rw [hsz]; decide) (by kernel_rfl))).trans (hF 53 (by decide))
      clear hρ hF hfun sl1 sl2 sl4 sl5 sl6 sl7 sl8 sl9 sl10 sl11 sl12 sl13 sl14 fin
      exact opv_val (by go_simp <;> rfl) ⟨gw_self _, rfl⟩
    · refine owes_vt 52 true (Go.Op.fieldAddr 42 (Go.Operand.tmp 98) 1) 0 [54] (by kernel_rfl) (by kernel_rfl) (by kernel_rfl) (fun _ _ h => h) (by rw [hsz]; kernel_rfl) (by kernel_rfl) rfl fun vals w1 ρ hG hF hρ hcst hfun => ?_
      have e98 : ρ (.tmp 98) = .pointer (some ⟨q9, 0, none⟩) := ((hρ 98).trans (slotJ [54] (by rw [hsz]; decide) (by kernel_rfl))).trans (hF 54 (by decide))
      clear hρ hF hcst hfun sl1 sl2 sl4 sl5 sl6 sl7 sl8 sl9 sl10 sl11 sl12 sl13 sl14 fin
      exact opv_val (by go_simp <;> rfl) ⟨gw_self _, rfl⟩
    · refine owes_vt 52 true (Go.Op.load 3 (Go.Operand.tmp 99)) 3 [55] (by kernel_rfl) (by kernel_rfl) (by kernel_rfl) (fun _ _ h => h) (by rw [hsz]; kernel_rfl) (by kernel_rfl) rfl fun vals w1 ρ hG hF hρ hcst hfun => ?_
      have e99 : ρ (.tmp 99) = .pointer (some ⟨q9, 1, none⟩) := ((hρ 99).trans (slotJ [55] (by rw [hsz]; decide) (by kernel_rfl))).trans (hF 55 (by decide))
      have k0 := (hG.cell (p := ⟨q9, 1, none⟩) (cell_ltN HR.out.2)).trans HR.out.2
      clear hρ hF hcst hfun sl1 sl2 sl4 sl5 sl6 sl7 sl8 sl9 sl10 sl11 sl12 sl13 sl14 fin
      exact opv_val (by go_simp <;> rfl) ⟨gw_self _, rfl⟩
    · refine owes_vt 52 true (Go.Op.binOp Go.BinOp.eql 3 (Go.Operand.tmp 100) (Go.Operand.const (Go.Value.int Go.IntKind.i64 6)) 3) 4 [56] (by kernel_rfl) (by kernel_rfl) (by kernel_rfl) (fun _ _ h => h) (by rw [hsz]; kernel_rfl) (by kernel_rfl) rfl fun vals w1 ρ hG hF hρ hcst hfun => ?_
      have e100 : ρ (.tmp 100) = .int .i64 6 := ((hρ 100).trans (slotJ [56] (by rw [hsz]; decide) (by kernel_rfl))).trans (hF 56 (by decide))
      clear hρ hF hfun sl1 sl2 sl4 sl5 sl6 sl7 sl8 sl9 sl10 sl11 sl12 sl13 sl14 fin
      exact opv_val (by go_simp <;> rfl) ⟨gw_self _, rfl⟩
    · refine owes_v (Go.Op.pick (Go.Operand.tmp 96) (Go.Operand.tmp 101) (Go.Operand.const (Go.Value.bool false))) 4 [52, 57] (by kernel_rfl) (by kernel_rfl) (by kernel_rfl) rfl fun vals w1 ρ hG hF hρ hcst hfun => ?_
      have e96 : ρ (.tmp 96) = .bool true := ((hρ 96).trans (slotJ [52, 57] (by rw [hsz]; decide) (by kernel_rfl))).trans (hF 52 (by decide))
      have e101 : ρ (.tmp 101) = .bool true := ((hρ 101).trans (slotJ [52, 57] (by rw [hsz]; decide) (by kernel_rfl))).trans (hF 57 (by decide))
      clear hρ hF hfun sl1 sl2 sl4 sl5 sl6 sl7 sl8 sl9 sl10 sl11 sl12 sl13 sl14 fin
      exact opv_val (by go_simp <;> rfl) ⟨gw_self _, rfl⟩
    · exact owes_mvj 58 102 (by kernel_rfl) (by kernel_rfl) (by kernel_rfl) (by kernel_rfl) (by rw [hsz]; decide) (fun v w h => h)
    · refine owes_vt 59 true (Go.Op.move (Go.Operand.tmp 13)) 3 [] (by kernel_rfl) (by kernel_rfl) (by kernel_rfl) (fun _ _ h => h) (by rw [hsz]; kernel_rfl) (by kernel_rfl) rfl fun vals w1 ρ hG hF hρ hcst hfun => ?_
      have e13 : ρ (.tmp 13) = .int .i64 6 := ((hρ 13).trans (slotO [] (by kernel_rfl))).trans sl13
      clear hρ hF hcst hfun sl1 sl2 sl4 sl5 sl6 sl7 sl8 sl9 sl10 sl11 sl12 sl13 sl14 fin
      exact opv_val (by go_simp <;> rfl) ⟨gw_self _, rfl⟩
    · refine owes_vt 59 true (Go.Op.binOp Go.BinOp.eql 3 (Go.Operand.tmp 104) (Go.Operand.const (Go.Value.int Go.IntKind.i64 6)) 3) 4 [60] (by kernel_rfl) (by kernel_rfl) (by kernel_rfl) (fun _ _ h => h) (by rw [hsz]; kernel_rfl) (by kernel_rfl) rfl fun vals w1 ρ hG hF hρ hcst hfun => ?_
      have e104 : ρ (.tmp 104) = .int .i64 6 := ((hρ 104).trans (slotJ [60] (by rw [hsz]; decide) (by kernel_rfl))).trans (hF 60 (by decide))
      clear hρ hF hfun sl1 sl2 sl4 sl5 sl6 sl7 sl8 sl9 sl10 sl11 sl12 sl13 sl14 fin
      exact opv_val (by go_simp <;> rfl) ⟨gw_self _, rfl⟩
    · refine owes_v (Go.Op.pick (Go.Operand.tmp 103) (Go.Operand.tmp 105) (Go.Operand.const (Go.Value.bool false))) 4 [59, 61] (by kernel_rfl) (by kernel_rfl) (by kernel_rfl) rfl fun vals w1 ρ hG hF hρ hcst hfun => ?_
      have e103 : ρ (.tmp 103) = .bool true := ((hρ 103).trans (slotJ [59, 61] (by rw [hsz]; decide) (by kernel_rfl))).trans (hF 59 (by decide))
      have e105 : ρ (.tmp 105) = .bool true := ((hρ 105).trans (slotJ [59, 61] (by rw [hsz]; decide) (by kernel_rfl))).trans (hF 61 (by decide))
      clear hρ hF hfun sl1 sl2 sl4 sl5 sl6 sl7 sl8 sl9 sl10 sl11 sl12 sl13 sl14 fin
      exact opv_val (by go_simp <;> rfl) ⟨gw_self _, rfl⟩
    · exact owes_mvj 62 106 (by kernel_rfl) (by kernel_rfl) (by kernel_rfl) (by kernel_rfl) (by rw [hsz]; decide) (fun v w h => h)
    · refine owes_vt 63 true (Go.Op.move (Go.Operand.tmp 14)) 4 [] (by kernel_rfl) (by kernel_rfl) (by kernel_rfl) (fun _ _ h => h) (by rw [hsz]; kernel_rfl) (by kernel_rfl) rfl fun vals w1 ρ hG hF hρ hcst hfun => ?_
      have e14 : ρ (.tmp 14) = .bool true := ((hρ 14).trans (slotO [] (by kernel_rfl))).trans sl14
      clear hρ hF hcst hfun sl1 sl2 sl4 sl5 sl6 sl7 sl8 sl9 sl10 sl11 sl12 sl13 sl14 fin
      exact opv_val (by go_simp <;> rfl) ⟨gw_self _, rfl⟩
    · refine owes_v (Go.Op.pick (Go.Operand.tmp 107) (Go.Operand.tmp 108) (Go.Operand.const (Go.Value.bool false))) 4 [63, 64] (by kernel_rfl) (by kernel_rfl) (by kernel_rfl) rfl fun vals w1 ρ hG hF hρ hcst hfun => ?_
      have e107 : ρ (.tmp 107) = .bool true := ((hρ 107).trans (slotJ [63, 64] (by rw [hsz]; decide) (by kernel_rfl))).trans (hF 63 (by decide))
      have e108 : ρ (.tmp 108) = .bool true := ((hρ 108).trans (slotJ [63, 64] (by rw [hsz]; decide) (by kernel_rfl))).trans (hF 64 (by decide))
      clear hρ hF hfun sl1 sl2 sl4 sl5 sl6 sl7 sl8 sl9 sl10 sl11 sl12 sl13 sl14 fin
      exact opv_val (by go_simp <;> rfl) ⟨gw_self _, rfl⟩
    · exact owes_mvj 65 109 (by kernel_rfl) (by kernel_rfl) (by kernel_rfl) (by kernel_rfl) (by rw [hsz]; decide) (fun v w h => h)
    · refine owes_vt 66 true (Go.Op.call { callee := Go.Callee.value (Go.Operand.func 19), args := #[Go.Operand.tmp 5], argTypes := #[34] }) 3 [] (by kernel_rfl) (by kernel_rfl) (by kernel_rfl) (fun _ _ h => h) (by rw [hsz]; kernel_rfl) (by kernel_rfl) rfl fun vals w1 ρ hG hF hρ hcst hfun => ?_
      have e5 : ρ (.tmp 5) = .pointer (some ⟨g, 0, none⟩) := ((hρ 5).trans (slotO [] (by kernel_rfl))).trans sl5
      clear hρ hF hcst sl1 sl2 sl4 sl5 sl6 sl7 sl8 sl9 sl10 sl11 sl12 sl13 sl14 fin
      exact opv_enter (by go_simp <;> rfl) ((len_c (HT.out.below hG)).mono fun _ _ h => ⟨_, h.1, by rw [h.2]; exact gw_self _, rfl⟩)
    · refine owes_vt 66 true (Go.Op.binOp Go.BinOp.eql 3 (Go.Operand.tmp 111) (Go.Operand.const (Go.Value.int Go.IntKind.i64 0)) 3) 4 [67] (by kernel_rfl) (by kernel_rfl) (by kernel_rfl) (fun _ _ h => h) (by rw [hsz]; kernel_rfl) (by kernel_rfl) rfl fun vals w1 ρ hG hF hρ hcst hfun => ?_
      have e111 : ρ (.tmp 111) = .int .i64 0 := ((hρ 111).trans (slotJ [67] (by rw [hsz]; decide) (by kernel_rfl))).trans (hF 67 (by decide))
      clear hρ hF hfun sl1 sl2 sl4 sl5 sl6 sl7 sl8 sl9 sl10 sl11 sl12 sl13 sl14 fin
      exact opv_val (by go_simp <;> rfl) ⟨gw_self _, rfl⟩
    · refine owes_v (Go.Op.pick (Go.Operand.tmp 110) (Go.Operand.tmp 112) (Go.Operand.const (Go.Value.bool false))) 4 [66, 68] (by kernel_rfl) (by kernel_rfl) (by kernel_rfl) rfl fun vals w1 ρ hG hF hρ hcst hfun => ?_
      have e110 : ρ (.tmp 110) = .bool true := ((hρ 110).trans (slotJ [66, 68] (by rw [hsz]; decide) (by kernel_rfl))).trans (hF 66 (by decide))
      have e112 : ρ (.tmp 112) = .bool true := ((hρ 112).trans (slotJ [66, 68] (by rw [hsz]; decide) (by kernel_rfl))).trans (hF 68 (by decide))
      clear hρ hF hfun sl1 sl2 sl4 sl5 sl6 sl7 sl8 sl9 sl10 sl11 sl12 sl13 sl14 fin
      exact opv_val (by go_simp <;> rfl) ⟨gw_self _, rfl⟩
    · exact owes_mvj 69 113 (by kernel_rfl) (by kernel_rfl) (by kernel_rfl) (by kernel_rfl) (by rw [hsz]; decide) (fun v w h => h)
  · intro vals w1 hG hF
    exact fin vals w1 hG (hF 70 (by decide +kernel))
theorem known19_c (w : World) : Calls Try.prog 7 #[] w (RetP (.bool true) w) := by
  obtain ⟨arr, harr⟩ : ∃ arr, arr = nC abN := ⟨_, rfl⟩
  obtain ⟨za, hza⟩ : ∃ za, za = nC zN := ⟨_, rfl⟩
  have hzero := zeroN
  rw [← hza] at hzero
  have HA := Lib.hid harr
  have HF1 := Lib.hid (fun W => by have := k19_f1 W; rw [← harr] at this; exact this)
  have HF2 := Lib.hid (fun W => by have := k19_f2 W; rw [← hza] at this; exact this)
  have HAS := Lib.hid (show arr.size = 32 from by rw [harr]; exact nC_size ab_w)
  have HAO := Lib.hid (show arr.all (·.oneCell') = true from by rw [harr]; exact nC_one abN)
  have HZS := Lib.hid (show za.size = 32 from by rw [hza]; exact nC_size zN_w)
  have HZO := Lib.hid (show za.all (·.oneCell') = true from by rw [hza]; exact nC_one zN)
  have HA0 := Lib.hid (show arr[0]? = some (.int .u8 97) from by rw [harr]; rfl)
  have HA2 := Lib.hid (show arr[2]? = some (.int .u8 0) from by rw [harr]; rfl)
  have HST := Lib.hid (fun W => by have := string_c W abN ab_w; rw [ab_cut, nV, ← harr] at this; exact this)
  clear harr hza
  go_enter Try.func7, Try.ntmps7
  go_wp2_with fail
  refine Calls.mono (HF1.out _) ?_
  rintro e w1 ⟨rfl, b1⟩
  have HB1 := Lib.hid b1
  have HN1 := Lib.hid (Bk.new w1 24 za)
  have HW1 := Lib.hid (Gw.alloc w1 (.cells za 24))
  clear b1
  go_wp2_with (refine wp_storeN rfl _ _ rfl w1.heap.size arr rfl rfl 24 za HN1.out HAS.out HZS.out HAO.out ?_; intro w2 k2 b2 o2; have HK2 := Lib.hid k2; have HB2 := Lib.hid ((HB1.out.trans (HW1.out.mono HB1.out.size)).trans (b2 w.heap.size HB1.out.size)); clear k2 b2 o2)
  refine Calls.mono (HF2.out _) ?_
  rintro e w3 ⟨rfl, b3⟩
  have HB3 := Lib.hid (HB2.out.trans (b3.mono HB2.out.size))
  have HK3 := Lib.hid (HK2.out.below b3 HK2.out.lt)
  have HN3 := Lib.hid (Bk.new w3 24 za)
  have HW3 := Lib.hid (Gw.alloc w3 (.cells za 24))
  clear b3 HB2 HK2 HN1 HW1 HB1
  go_wp2_with (first
    | (refine wp_storeN rfl _ _ rfl w3.heap.size za rfl rfl 24 za HN3.out HZS.out HZS.out HZO.out ?_; intro w4 k4 b4 o4; have HK4 := Lib.hid (show Bk w4 w1.heap.size 24 arr from (o4 _ (by have := HK3.out.lt; omega)).trans (HK3.out.below HW3.out HK3.out.lt)); have HB4 := Lib.hid ((HB3.out.trans (HW3.out.mono HB3.out.size)).trans (b4 w.heap.size HB3.out.size)); have HK5 := Lib.hid (HK4.out.alloc (.cells #[.map none] 34)); clear k4 b4 o4)
    | (refine wp_loadG rfl _ rfl w1.heap.size rfl 24 arr HK5.out HAS.out ?_))
  have HT5 := Lib.hid (TbX.new w4)
  have HB5 := Lib.hid (HB4.out.trans ((Gw.alloc w4 (.cells #[.map none] 34)).mono HB4.out.size))
  have HLT := Lib.hid (show w1.heap.size < w4.heap.size ∧ w.heap.size ≤ w4.heap.size from ⟨HK4.out.lt, HB4.out.size⟩)
  have HBI := Lib.hid (k19_b1 HT5.out (by simp))
  rw [← HA.out] at HBI
  obtain ⟨g, hg⟩ : ∃ g, g = w4.heap.size := ⟨_, rfl⟩
  rw [← hg] at HT5 HLT HBI ⊢
  clear hg HK3 HN3 HW3 HK4
  refine Calls.mono HBI.out ?_
  rintro e w6 ⟨rfl, t6, b6⟩
  have HT6 := Lib.hid t6
  have HK6 := Lib.hid (HK5.out.below b6 HLT.out.1)
  have HB6 := Lib.hid (HB5.out.trans (b6.mono HLT.out.2))
  have HBI6 := Lib.hid (k19_b2 t6 (Nat.le_of_lt t6.lt))
  rw [← HA.out] at HBI6
  clear t6 b6 HBI HT5 HK5 HB5
  go_wp2_with (refine wp_loadG rfl _ rfl w1.heap.size rfl 24 arr HK6.out HAS.out ?_)
  refine Calls.mono HBI6.out ?_
  rintro e w7 ⟨rfl, t7, b7⟩
  have HT7 := Lib.hid t7
  have HK7 := Lib.hid (HK6.out.below b7 HLT.out.1)
  have HB7 := Lib.hid (HB6.out.trans (b7.mono HLT.out.2))
  have HL7 := Lib.hid (k19_l t7)
  rw [← HA.out] at HL7
  clear t7 b7 HBI6 HT6 HK6 HB6
  go_wp2_with (refine wp_loadG rfl _ rfl w1.heap.size rfl 24 arr HK7.out HAS.out ?_)
  refine Calls.mono HL7.out ?_
  rintro e w8 ⟨rfl, b8'⟩
  have HT8 := Lib.hid (HT7.out.below b8')
  have HK8 := Lib.hid (HK7.out.below b8' HK7.out.lt)
  have HB8 := Lib.hid (HB7.out.trans (b8'.mono HB7.out.size))
  clear b8' HL7 HT7 HK7 HB7
  go_wp2_with fail
  refine Calls.mono (roots1_c abN ab_w 6 HT8.out ⟨#[97, 98]⟩ ab_cut.symm) ?_
  rintro e w9 ⟨v9, rfl, hv9, b9⟩
  obtain ⟨q9, c9, rfl, hge, r0, r1, hq9⟩ := hv9
  obtain ⟨mb, t1, t2, t3, t4⟩ := HT8.out
  have HT9 := Lib.hid (show Bk w9 g 34 #[.map mb] ∧ NmO w9 mb [(abN, 6)] ∧ ∀ b, mb = some b → b ≠ g from ⟨t1.below b9 t1.lt, t2.kept (Kept.of_below b9 (fun _ => False)) (fun _ _ f => f), fun b e => (t4 b e).2⟩)
  have HMB := Lib.hid (show ∀ c, mb = some c → g ≤ c ∧ c ≠ q9 from fun c e => ⟨(t4 c e).1, by have := t2.lt c e; omega⟩)
  have HK9 := Lib.hid (HK8.out.below b9 HK8.out.lt)
  have HB9 := Lib.hid (HB8.out.trans (b9.mono HB8.out.size))
  have HR9 := Lib.hid (And.intro r0 (And.intro r1 hq9))
  have HU := Lib.hid (k19_u HT9.out.1 HT9.out.2.1 HT9.out.2.2)
  rw [← HA.out] at HU
  clear r0 r1 hq9 b9 HT8 HK8 HB8 t1 t2 t3 t4 hge
  go_wp2_with (refine wp_loadG rfl _ rfl w1.heap.size rfl 24 arr HK9.out HAS.out ?_)
  refine Calls.mono HU.out ?_
  rintro e w10 ⟨rfl, t10, m10, k10⟩
  have HK10 := Lib.hid (k10.bk HK9.out (fun e => by have h1 := (HMB.out _ e).1; have h2 := HLT.out.1; omega))
  have r0 := (k10.cell (p := ⟨q9, 0, none⟩) HR9.out.2.2 (fun e => (HMB.out _ e).2 rfl)).trans HR9.out.1
  have r1 := (k10.cell (p := ⟨q9, 1, none⟩) HR9.out.2.2 (fun e => (HMB.out _ e).2 rfl)).trans HR9.out.2.1
  have HB10 := Lib.hid (HB9.out.trans (k10.below HB9.out.size (fun c e => Nat.le_trans HLT.out.2 (HMB.out c e).1)))
  have HT10 := Lib.hid (show TbX 0 w10 g [] from ⟨mb, t10, m10, Nat.zero_le _, fun b e => ⟨Nat.zero_le _, HT9.out.2.2 b e⟩⟩)
  have d0 : w10.cell? ⟨w1.heap.size, 0, none⟩ = some (.int .u8 97) := (HK10.out.cell 0).trans HA0.out
  have d2 : w10.cell? ⟨w1.heap.size, 2, none⟩ = some (.int .u8 0) := (HK10.out.cell 2).trans HA2.out
  clear t10 m10 k10 HU HT9 HK9 HB9 HR9 HMB HF1 HF2
  go_upto_region 9 with fail
  refine wp_region_lit ?_
  refine k19_end _ _ _ w1.heap.size q9 c9 g arr HAS.out HK10 (Lib.hid ⟨r0, r1⟩) HT10 HST HA0.out HA2.out _ _ (by kernel_rfl) (by kernel_rfl) ?_ ?_ ?_ ?_ ?_ ?_ ?_ ?_ ?_ ?_ ?_ ?_ ?_ ?_ ?_
  iterate 14 (· rfl)
  intro vals w11 hG h0
  unfold IsV at h0
  simp only [putD, Act.put, List.setIfInBounds_toArray, List.set_cons_zero, List.set_cons_succ, h0]
  have HB11 := Lib.hid (HB10.out.trans (hG.mono HB10.out.size))
  clear h0 hG
  go_wp2_with fail
  go_ret
  exact ⟨rfl, HB11.out⟩
end Go.Proofs.Ytdfhdgdhhgabbaa
