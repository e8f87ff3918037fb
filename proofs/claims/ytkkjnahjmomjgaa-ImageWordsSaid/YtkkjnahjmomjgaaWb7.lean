/- Texts joined: NmV DcC RdN DcD DeC FldR PwI CkT. -/
import Derived.Test.YtkkjnahjmomjgaaWb6
import Derived.Test.YtkkjnahjmomjgaaGtZ
import Derived.Test.YtkkjnahjmomjgaaBitsA
/- Names read out of rows of bytes. No conditions. -/
namespace Go.Proofs.Ytkkjnahjmomjgaa
set_option linter.unusedVariables false
set_option linter.unusedSimpArgs false
open Go.RowKit Go.Maps
set_option maxHeartbeats 2000000
set_option maxRecDepth 100000
/-- Is what a Root has for a name one? -/
def nmOk (k : Nm) : Bool := decide (goodN (cutN k) ∧ padNm (cutN k) = k)
theorem ldRd {w : World} {B : Nat} {a : Addr} {xs : Nm} (hr : Rd b8 w B (some a) xs) (hl : nW xs) : (loadVar 120 a).run Try.prog w = .ok (.agg (nC xs)) w := by
  have hc : (loadCells a (xs.map b8).length).run Try.prog w = .ok (xs.map b8).toArray w := run_loadCells_list w a (xs.map b8) (fun j v hv => by
    rw [List.getElem?_map] at hv
    cases hx : xs[j]? with
    | none => rw [hx] at hv; cases hv
    | some y =>
      rw [hx] at hv
      injection hv with hv
      obtain ⟨hj, e⟩ := List.getElem?_eq_some_iff.1 hx
      obtain ⟨ad, had, _, h⟩ := hr j hj
      injection had with had
      subst had
      rw [h, ← hv, e])
  rw [List.length_map, hl] at hc
  have hagg : (isAgg 120).run Try.prog w = .ok true w := by
    unfold isAgg
    rw [Sem.run_bind, run_underlying Try.underlying120 w]
    rfl
  have hsz : (sizeOf 120).run Try.prog w = .ok 32 w := by kernel_rfl
  unfold loadVar
  simp only [Sem.run_bind, hagg, Result.andThen_ok, if_true, hsz, hc, Sem.run_pure]
  rfl
theorem arrN (A : Option Addr) (c : Nat) (W : World) : (Instr.arrayAt 120 (.slice A 32 c)).run Try.prog W = .ok (.pointer A) W := by
  unfold Instr.arrayAt
  rw [Sem.run_bind, run_underlying Try.underlying120 W]
  rfl
section
variable {ops : Array Oper} {rest : List Oper} {o : Oper} {a : Act} {w : World} {Q : Exit → Act → World → Prop}
end
theorem opv_ldRd {ρ : Operand → Value} {x : Operand} {w : World} {B : Nat} {ad : Addr} {xs : Nm} {ty : TypeId} (hx : ρ x = .pointer (some ad)) (hr : Rd b8 w B (some ad) xs) (hl : nW xs) :
    OpV Try.prog (.load 120 x) ty ρ w (fun v w2 => Below w.heap.size w w2 ∧ IsV (.agg (nC xs)) v w2) :=
  opv_val (by unfold execOp; simp [hx, Instr.loadAt, Instr.sureAddr, ldRd hr hl]) ⟨gw_self _, rfl⟩
end Go.Proofs.Ytkkjnahjmomjgaa
/- image.readRoot. Conditions: lengths. -/
namespace Go.Proofs.Ytkkjnahjmomjgaa
set_option linter.unusedVariables false
set_option linter.unusedSimpArgs false
open Go.RowKit Go.Maps
set_option maxHeartbeats 4000000
set_option maxRecDepth 100000
theorem irr7 (Q : Exit → Act → World → Prop) (a0 : Act) (w : World) (ad : Addr) (c mb : Nat) (xs : Nm) (st : ByteArray) (xu z1 z2 nv : Int) (hr : Rd b8 w w.heap.size (some ad) xs) (hn : nW xs) (h1 : IntKind.i64.wrap xu = z1) (h2 : IntKind.i64.wrap (z1 - 1) = z2) (HST : Hid (∀ W, Calls Try.prog 95 #[.agg (nC xs)] W (RetP (.string st) W))) (HLk : Hid (∀ W, Below w.heap.size w W → (Instr.lookup 97 (.map (some mb)) (.int .i64 z2) false).run Try.prog W = .ok (.int .i64 nv) W)) (hsz : a0.tmps.size = 43) (sl2 : a0.tmps.getD 2 undef = .map (some mb)) (sl8 : a0.tmps.getD 8 undef = .slice (some ad) 32 c) (sl10 : a0.tmps.getD 10 undef = .int .u64 xu)
    (fin : ∀ (vals : Nat → Value) (w1 : World), Below w.heap.size w w1 → (IsV (.agg #[.string st, .int .i64 nv])) (vals 9) w1 → wpList Try.prog #[{ dst := none, op := Go.Op.store 56 (Go.Operand.tmp 6) (Go.Operand.tmp 42), type := 0, pos := "", after := #[], guard := none }] (SpineQ (putD vals [33, 34, 35, 36, 37, 38, 39, 40, 41, 42] 0 a0).defers (fun _ => True) (fun a w => wpList Try.prog #[{ dst := some 7, op := Go.Op.assign (Go.Operand.const (Go.Value.int Go.IntKind.i64 0)), type := 34, pos := "", after := #[], guard := none }] Q [{ dst := some 7, op := Go.Op.assign (Go.Operand.const (Go.Value.int Go.IntKind.i64 0)), type := 34, pos := "", after := #[], guard := none }] a w)) [{ dst := none, op := Go.Op.store 56 (Go.Operand.tmp 6) (Go.Operand.tmp 42), type := 0, pos := "", after := #[], guard := none }] (putD vals [33, 34, 35, 36, 37, 38, 39, 40, 41, 42] 0 a0) w1) :
    (Code.region 7 (regIn Try.f77 7) true).wp Try.prog Q a0 w := by
  refine region_by_tail2 (m := 10) (G := fun w w1 => Below w.heap.size w w1) [IsV (.slice (some ad) 32 c),
    IsV (.pointer (some ad)),
    IsV (.agg (nC xs)),
    IsV (.string st),
    IsV (.map (some mb)),
    IsV (.int .u64 xu),
    IsV (.int .i64 z1),
    IsV (.int .i64 z2),
    IsV (.int .i64 nv),
    IsV (.agg #[.string st, .int .i64 nv])]
    [33, 34, 35, 36, 37, 38, 39, 40, 41, 42] (by kernel_rfl) (Gw.drew _) Gw.trans (by rw [hsz]; kernel_rfl) (by kernel_rfl) ?_ ?_ ?_
  · intro f hf
    simp only [List.mem_cons, List.not_mem_nil, or_false] at hf
    rcases hf with rfl | rfl | rfl | rfl | rfl | rfl | rfl | rfl | rfl | rfl <;> intro v a b h g <;> first | exact IsV.mono h
  · refine ⟨?_, ?_, ?_, ?_, ?_, ?_, ?_, ?_, ?_, ?_, trivial⟩
    · exact owes_mv 8 (by kernel_rfl) (by kernel_rfl) (by kernel_rfl) sl8 (fun _ => rfl)
    · refine owes_v (Go.Op.sliceToArrayPointer 120 (Go.Operand.tmp 33)) 0 [0] (by kernel_rfl) (by kernel_rfl) (by kernel_rfl) rfl fun vals w1 ρ hG hF hρ hcst hfun => ?_
      have e33 : ρ (.tmp 33) = .slice (some ad) 32 c := ((hρ 33).trans (slotJ [0] (by rw [hsz]; decide) (by kernel_rfl))).trans (hF 0 (by decide))
      have k := arrN (some ad) c w1
      clear hρ hF hcst hfun sl2 sl8 sl10 fin
      exact opv_val (by go_simp <;> rfl) ⟨gw_self _, rfl⟩
    · refine owes_v (Go.Op.load 120 (Go.Operand.tmp 34)) 120 [1] (by kernel_rfl) (by kernel_rfl) (by kernel_rfl) rfl fun vals w1 ρ hG hF hρ hcst hfun => ?_
      have e34 : ρ (.tmp 34) = .pointer (some ad) := ((hρ 34).trans (slotJ [1] (by rw [hsz]; decide) (by kernel_rfl))).trans (hF 1 (by decide))
      clear hρ hF hcst hfun sl2 sl8 sl10 fin
      exact opv_ldRd e34 (hr.below hG) hn
    · refine owes_v (Go.Op.call { callee := Go.Callee.value (Go.Operand.func 95), args := #[Go.Operand.tmp 35], argTypes := #[120] }) 9 [2] (by kernel_rfl) (by kernel_rfl) (by kernel_rfl) rfl fun vals w1 ρ hG hF hρ hcst hfun => ?_
      have e35 : ρ (.tmp 35) = .agg (nC xs) := ((hρ 35).trans (slotJ [2] (by rw [hsz]; decide) (by kernel_rfl))).trans (hF 2 (by decide))
      clear hρ hF hcst sl2 sl8 sl10 fin
      exact opv_enter (by go_simp <;> rfl) (of_ret (HST.out w1))
    · exact owes_mv 2 (by kernel_rfl) (by kernel_rfl) (by kernel_rfl) sl2 (fun _ => rfl)
    · exact owes_mv 10 (by kernel_rfl) (by kernel_rfl) (by kernel_rfl) sl10 (fun _ => rfl)
    · refine owes_v (Go.Op.convert 57 3 (Go.Operand.tmp 38)) 3 [5] (by kernel_rfl) (by kernel_rfl) (by kernel_rfl) rfl fun vals w1 ρ hG hF hρ hcst hfun => ?_
      have e38 : ρ (.tmp 38) = .int .u64 xu := ((hρ 38).trans (slotJ [5] (by rw [hsz]; decide) (by kernel_rfl))).trans (hF 5 (by decide))
      have k := h1
      clear hρ hF hcst hfun sl2 sl8 sl10 fin
      exact opv_val (by go_simp <;> rfl) ⟨gw_self _, rfl⟩
    · refine owes_v (Go.Op.binOp Go.BinOp.sub 3 (Go.Operand.tmp 39) (Go.Operand.const (Go.Value.int Go.IntKind.i64 1)) 3) 3 [6] (by kernel_rfl) (by kernel_rfl) (by kernel_rfl) rfl fun vals w1 ρ hG hF hρ hcst hfun => ?_
      have e39 : ρ (.tmp 39) = .int .i64 z1 := ((hρ 39).trans (slotJ [6] (by rw [hsz]; decide) (by kernel_rfl))).trans (hF 6 (by decide))
      have k := h2
      clear hρ hF hfun sl2 sl8 sl10 fin
      exact opv_val (by go_simp <;> rfl) ⟨gw_self _, rfl⟩
    · refine owes_v (Go.Op.lookup 97 (Go.Operand.tmp 37) (Go.Operand.tmp 40) false) 3 [4, 7] (by kernel_rfl) (by kernel_rfl) (by kernel_rfl) rfl fun vals w1 ρ hG hF hρ hcst hfun => ?_
      have e37 : ρ (.tmp 37) = .map (some mb) := ((hρ 37).trans (slotJ [4, 7] (by rw [hsz]; decide) (by kernel_rfl))).trans (hF 4 (by decide))
      have e40 : ρ (.tmp 40) = .int .i64 z2 := ((hρ 40).trans (slotJ [4, 7] (by rw [hsz]; decide) (by kernel_rfl))).trans (hF 7 (by decide))
      have k := HLk.out w1 hG
      clear hρ hF hcst hfun sl2 sl8 sl10 fin
      exact opv_val (by go_simp <;> rfl) ⟨gw_self _, rfl⟩
    · refine owes_v (Go.Op.build 56 #[(0, Go.Operand.tmp 36), (1, Go.Operand.tmp 41)]) 56 [3, 8] (by kernel_rfl) (by kernel_rfl) (by kernel_rfl) rfl fun vals w1 ρ hG hF hρ hcst hfun => ?_
      have e36 : ρ (.tmp 36) = .string st := ((hρ 36).trans (slotJ [3, 8] (by rw [hsz]; decide) (by kernel_rfl))).trans (hF 3 (by decide))
      have e41 : ρ (.tmp 41) = .int .i64 nv := ((hρ 41).trans (slotJ [3, 8] (by rw [hsz]; decide) (by kernel_rfl))).trans (hF 8 (by decide))
      clear hρ hF hcst hfun sl2 sl8 sl10 fin
      exact opv_val (by go_simp <;> rfl) ⟨gw_self _, rfl⟩
  · intro vals w1 hG hF
    exact next_spine2 (by kernel_rfl) (by kernel_rfl) (by kernel_rfl) (by kernel_rfl) (by kernel_rfl) (by kernel_rfl) (fin vals w1 hG (hF 9 (by decide +kernel)))
def RootP (w : World) (r : Rv) (e : Ending) (w' : World) : Prop := e = .returned (.tuple #[r.v, .int .i64 0]) ∧ Below w.heap.size w w'
theorem readRoot_c (w : World) (B g mb : Nat) (v : Value) (ws : List (BitVec 64)) (h : MemAt w B g v ws) (h8 : ws.length ≤ 8192) (l : List Nat) (hm : MapIs w (some mb) (numM l)) (i a : Nat) (ha : a = 2 + 5 * i) (hi : a + 4 < ws.length) :
    Calls Try.prog 77 #[.pointer (some ⟨g, 0, none⟩), .int .i64 (a : Int), .map (some mb)] w (RootP w (dRoot ws l i)) := by
  obtain ⟨k, hk⟩ : ∃ k, k = bytesM ws (8 * a) 32 := ⟨_, rfl⟩
  have hkw : nW k := by rw [hk]; unfold nW bytesM; simp
  have HBy := Lib.hid (fun W (m : MemAt W B g v ws) => bytes_k (xs := k) (a := 8 * a) (n := 32) hk.symm (by omega) (by omega) m)
  obtain ⟨st, hst⟩ : ∃ st, st = strB (cutN k) := ⟨_, rfl⟩
  have HST := Lib.hid (fun W => string_c W k hkw)
  unfold nV at HST
  rw [← hst] at HST
  obtain ⟨x, hx⟩ : ∃ x, x = ws[a + 4] := ⟨_, rfl⟩
  have hxe : ws.getD (2 + 5 * i + 4) 0#64 = x := by rw [← ha, hx, List.getD_eq_getElem?_getD, List.getElem?_eq_getElem hi]; rfl
  obtain ⟨a4, ha4⟩ : ∃ a4, a4 = a + 4 := ⟨_, rfl⟩
  have HGt := Lib.hid (fun W (m : MemAt W B g v ws) => show Calls Try.prog 101 #[.pointer (some ⟨g, 0, none⟩), .int .i64 (a4 : Int)] W (fun e w' => e = .returned (.tuple #[.int .u64 (U64 x), .int .i64 0]) ∧ w' = W) from by
    have h1 := get_in W B g v ws (a + 4) hi (by omega) m
    rw [← hx, ← ha4] at h1
    exact h1)
  obtain ⟨z1, hz1⟩ : ∃ z, IntKind.i64.wrap (U64 x) = z := ⟨_, rfl⟩
  obtain ⟨z2, hz2⟩ : ∃ z, IntKind.i64.wrap (z1 - 1) = z := ⟨_, rfl⟩
  have hri : rtI x = z2 := by unfold rtI; rw [hz1, hz2]
  obtain ⟨nv, hnv⟩ : ∃ nv, nv = numV l z2 := ⟨_, rfl⟩
  have hwf : (Lit.int .i64 z2).wf = true := by
    rw [← hz2]
    simp [Lit.wf, IntKind.min, IntKind.max, IntKind.wrap, IntKind.signed, IntKind.bits]
    omega
  have HLk := Lib.hid (fun W (q : MapIs W (some mb) (numM l)) => show (Instr.lookup 97 (.map (some mb)) (.int .i64 z2) false).run Try.prog W = .ok (.int .i64 nv) W from by
    rw [hnv]
    exact q.look hwf)
  have hd : dRoot ws l i = ⟨st, nv⟩ := by
    unfold dRoot
    rw [hxe, hri, ← hnv, ← ha, ← hk, ← hst]
  rw [hd]
  obtain ⟨xu, hxu⟩ : ∃ xu, xu = U64 x := ⟨_, rfl⟩
  rw [← hxu] at HGt hz1
  obtain ⟨a8, ha8⟩ : ∃ a8, a8 = 8 * a := ⟨_, rfl⟩
  rw [← ha8] at HBy
  have q1 : (a : Int) * 8 = (a8 : Int) := by omega
  have q2 : (a8 : Int) ≤ 65536 := by omega
  have q3 : (a : Int) + 4 = (a4 : Int) := by omega
  have q4 : (a4 : Int) ≤ 8192 := by omega
  have q5 : (0 : Int) ≤ (a : Int) := by omega
  have HZ := Lib.hid (And.intro hz1 (And.intro hz2 hkw))
  have HM := Lib.hid (And.intro h hm)
  have hkl : k.length = 32 := hkw
  have HKl := Lib.hid hkl
  clear h h8 hm ha hi hk hkw hst hx hxe ha4 hz1 hz2 hri hnv hwf hd hxu ha8 hkl
  go_enter Try.func77, Try.ntmps77
  go_wp2_with fail
  obtain ⟨Rb, hRb⟩ : ∃ R, R = w.heap.size := ⟨_, rfl⟩
  obtain ⟨w1, hw1⟩ : ∃ W, W = w.alloc (.cells #[.string ⟨#[]⟩, .int .i64 0] 56) := ⟨_, rfl⟩
  have hbk : Bk w1 Rb 56 #[.string ⟨#[]⟩, .int .i64 0] := by rw [hw1, hRb]; exact Bk.new w _ _
  have b1 : Below w.heap.size w w1 := by rw [hw1]; exact Gw.alloc w _
  rw [← hw1, ← hRb]
  have HFr := Lib.hid (Nat.le_of_eq hRb.symm)
  have H1 := Lib.hid (And.intro hbk b1)
  clear hw1 hRb hbk b1
  refine Calls.mono (HBy.out w1 (HM.out.1.below H1.out.2)) ?_
  rintro r w2 ⟨u, rfl, b2, A, c, rfl, hrd⟩
  obtain ⟨ad, rfl⟩ : ∃ ad, A = some ad := by
    obtain ⟨ad, had, _, _⟩ := hrd 0 (by rw [HKl.out]; decide)
    exact ⟨ad, had⟩
  rw [HKl.out]
  have H2 := Lib.hid (And.intro (H1.out.1.below b2 H1.out.1.lt) (And.intro (H1.out.2.trans (b2.mono H1.out.2.size)) hrd))
  clear b2 hrd H1 HBy
  go_wp2_with fail
  refine Calls.mono (HGt.out w2 (HM.out.1.below H2.out.2.1)) ?_
  rintro r w3 ⟨rfl, rfl⟩
  go_wp2_with fail
  refine irr7 _ _ _ ad c mb k st xu z1 z2 nv H2.out.2.2 HZ.out.2.2 HZ.out.1 HZ.out.2.1 HST (Lib.hid (fun W b => HLk.out W (HM.out.2.kept (Kept.of_below (H2.out.2.1.trans (b.mono H2.out.2.1.size)) (fun _ => False)) (fun _ _ f => f)))) rfl ?_ ?_ ?_ ?_
  · rfl
  · rfl
  · rfl
  intro vals w4 hG h42
  unfold IsV at h42
  simp only [putD, Act.put, List.setIfInBounds_toArray, List.set_cons_zero, List.set_cons_succ, h42]
  have H4 := Lib.hid (And.intro (H2.out.1.below hG H2.out.1.lt) (H2.out.2.1.trans (hG.mono H2.out.2.1.size)))
  clear hG h42 H2
  obtain ⟨q0, q1'⟩ := H4.out.1.two
  have hRl := H4.out.1.lt
  have hfr0 := H4.out.1.free 0
  have hfr1 := H4.out.1.free 1
  go_wp2_with fail
  obtain ⟨W, hW⟩ : ∃ W, W = ((w4.setCell ⟨Rb, 0, none⟩ (.string st)).setCell ⟨Rb, 1, none⟩ (.int .i64 nv)) := ⟨_, rfl⟩
  have kR : Bk W Rb 56 #[.string st, .int .i64 nv] := by rw [hW]; exact two_set H4.out.1
  have kB : Below w.heap.size w W := by rw [hW]; exact two_below H4.out.2 HFr.out
  have hl := run_loadVar_row (P := Try.prog) W Rb 56 56 #[.string st, .int .i64 nv] (0, 0) _ kR Try.underlying56 rfl (by kernel_rfl)
  rw [← hW]
  clear hW q0 q1' hRl hfr0 hfr1
  refine ⟨rfl, trivial, ?_⟩
  go_wp2_with fail
  refine bodyPost_ret (res2 (p := 6) (u := 7) (by kernel_rfl) hl rfl rfl) rfl ?_
  exact ⟨rfl, kB⟩
end Go.Proofs.Ytkkjnahjmomjgaa
/- A row of one place. No conditions. -/
namespace Go.Proofs.Ytkkjnahjmomjgaa
set_option linter.unusedVariables false
set_option linter.unusedSimpArgs false
open Go.RowKit
theorem rdN_new (w : World) (a : Nat) : Rd iN (w.alloc (.cells #[.int .i64 (a : Int)] 3)) (w.heap.size + 1) (some ⟨w.heap.size, 0, none⟩) [a] := rd1_new rfl
end Go.Proofs.Ytkkjnahjmomjgaa
/- image.readNodes. Conditions: a space's objects. -/
namespace Go.Proofs.Ytkkjnahjmomjgaa
set_option linter.unusedVariables false
set_option linter.unusedSimpArgs false
open Go.RowKit Go.Maps
set_option maxHeartbeats 8000000
set_option maxRecDepth 100000
theorem node_info : ∃ i, Try.prog.info? 54 = some i ∧ i.zero = some (.agg #[.slice none 0 0, .slice none 0 0]) ∧ i.size = 2 ∧ i.bytes = 48 := by
  have h : (Try.prog.info? 54).map (fun i => (i.zero, i.size, i.bytes)) = some (some (.agg #[.slice none 0 0, .slice none 0 0]), 2, 48) := by kernel_rfl
  obtain ⟨i, h1, h2, h3, h4⟩ := info_parts h
  exact ⟨i, h1, h2, h3, h4⟩
theorem root_info : ∃ i, Try.prog.info? 56 = some i ∧ i.zero = some (.agg #[.string ⟨#[]⟩, .int .i64 0]) ∧ i.size = 2 ∧ i.bytes = 24 := by
  have h : (Try.prog.info? 56).map (fun i => (i.zero, i.size, i.bytes)) = some (some (.agg #[.string ⟨#[]⟩, .int .i64 0]), 2, 24) := by kernel_rfl
  obtain ⟨i, h1, h2, h3, h4⟩ := info_parts h
  exact ⟨i, h1, h2, h3, h4⟩
section
variable {ops : Array Oper} {rest : List Oper} {o : Oper} {a : Act} {W : World} {Q : Exit → Act → World → Prop}
/-- append(nodes, x), x's rows being made behind W0. -/
theorem wp_appNv (hgd : o.guard = none) (s y : Operand) (ho : o.op = .call { callee := .builtin .append, args := #[s, y], argTypes := #[22, 22] })
    (W0 : World) (base : Nat) (v : Value) (xs : List Nv) (x : Nv) (hs : a.eval s = v) (h : NOwn W0 base v xs) (hb : Below W0.heap.size W0 W) (hx : Ow iV 3 W base x.vp x.ps ∧ Ow b8 5 W base x.vd x.bs)
    (hf : (∀ k, x.vp.ownBlock = some k → W0.heap.size ≤ k) ∧ (∀ k, x.vd.ownBlock = some k → W0.heap.size ≤ k) ∧ (∀ k, x.vp.ownBlock = some k → x.vd.ownBlock ≠ some k))
    (q c : Nat) (hy : a.eval y = .slice (some ⟨q, 0, none⟩) 1 c) (c0 : W.cell? ⟨q, 0, none⟩ = some x.vp) (c1 : W.cell? ⟨q, 1, none⟩ = some x.vd) (hl : xs.length ≤ 100000) (hbase : base ≤ W0.heap.size)
    (hk : ∀ v' w', NOwn w' base v' (xs ++ [x]) → Below base W w' → wpList Try.prog ops Q rest (a.put o.dst v') w') : wpList Try.prog ops Q (o :: rest) a W := by
  obtain ⟨i0, hi, hz0, hz1, hz2⟩ := node_info
  have hbW : base ≤ W.heap.size := Nat.le_trans hbase hb.size
  have hrow : W.ownsRow base 54 2 v xs.length (xs.flatMap Nv.cs) := ownsRow_below h.row hb
  refine wp_appR 2 i0 Try.underlying22 hi hz0 hz1 hz2 (by rfl) (by decide) hgd s y ho base v xs.length (xs.flatMap Nv.cs) hs hrow ⟨q, 0, none⟩ 1 c x.cs hy rfl (fun j u hu => ?_) (fun u hu => ?_) (by unfold maxLen; omega) (by omega) hbW ?_
  · match j with
    | 0 =>
      have e : u = x.vp := by simpa [Nv.cs] using hu.symm
      rw [e, addr_at]
      exact c0
    | 1 =>
      have e : u = x.vd := by simpa [Nv.cs] using hu.symm
      rw [e, addr_at]
      exact c1
    | j + 2 => simp [Nv.cs] at hu
  · unfold Nv.cs at hu
    rcases List.mem_cons.1 hu with rfl | hu
    · rfl
    · rcases List.mem_cons.1 hu with rfl | hu
      · rfl
      · cases hu
  · intro v' w' ho' hb' hg' hv'
    exact hk v' w' (h.snoc hb hx hf ho' hg' hv') hb'
/-- append(roots, r). -/
theorem wp_appRv (hgd : o.guard = none) (s y : Operand) (ho : o.op = .call { callee := .builtin .append, args := #[s, y], argTypes := #[23, 23] })
    (base : Nat) (v : Value) (xs : List Rv) (x : Rv) (hs : a.eval s = v) (h : ROwn W base v xs)
    (q c : Nat) (hy : a.eval y = .slice (some ⟨q, 0, none⟩) 1 c) (c0 : W.cell? ⟨q, 0, none⟩ = some (.string x.s)) (c1 : W.cell? ⟨q, 1, none⟩ = some (.int .i64 x.t)) (hl : xs.length ≤ 100000) (hbW : base ≤ W.heap.size)
    (hk : ∀ v' w', ROwn w' base v' (xs ++ [x]) → Below base W w' → W.grownBy w' v.ownBlock → wpList Try.prog ops Q rest (a.put o.dst v') w') : wpList Try.prog ops Q (o :: rest) a W := by
  obtain ⟨i0, hi, hz0, hz1, hz2⟩ := root_info
  refine wp_appR 2 i0 Try.underlying23 hi hz0 hz1 hz2 (by rfl) (by decide) hgd s y ho base v xs.length (xs.flatMap Rv.cs) hs h ⟨q, 0, none⟩ 1 c x.cs hy rfl (fun j u hu => ?_) (fun u hu => ?_) (by unfold maxLen; omega) (by omega) hbW ?_
  · match j with
    | 0 =>
      have e : u = .string x.s := by simpa [Rv.cs] using hu.symm
      rw [e, addr_at]
      exact c0
    | 1 =>
      have e : u = .int .i64 x.t := by simpa [Rv.cs] using hu.symm
      rw [e, addr_at]
      exact c1
    | j + 2 => simp [Rv.cs] at hu
  · unfold Rv.cs at hu
    rcases List.mem_cons.1 hu with rfl | hu
    · rfl
    · rcases List.mem_cons.1 hu with rfl | hu
      · rfl
      · cases hu
  · intro v' w' ho' hb' hg' hv'
    exact hk v' w' (by unfold ROwn; rw [List.length_append, List.flatMap_append]; simpa using ho') hb' hg'
theorem wp_ins_is {b : Nat} {l : List (Int × Int)} (hg : o.guard = none) (m x v : Operand) (hop : o.op = Op.insert 97 m x v)
    (hm : a.eval m = .map (some b)) (h : MapIs W (some b) l) (k z : Int) (hx : a.eval x = .int .i64 k) (hv : a.eval v = .int .i64 z) (hk : (Lit.int .i64 k).wf = true) (hz : (Lit.int .i64 z).wf = true) (hl : l.length ≤ 1000000)
    (hK : ∀ w', MapIs w' (some b) (putI l k z) → Kept (fun c => some b = some c) W w' → wpList Try.prog ops Q rest (a.put o.dst undef) w') : wpList Try.prog ops Q (o :: rest) a W := by
  refine wpList_plain hg fun K' hK' => ?_
  obtain ⟨w', hrun, r1, r2⟩ := h.put hk hz hl
  unfold Oper.wp
  simp [execOp, hop, hm, hx, hv, hrun, Result.andThen]
  exact hK' _ _ (hK w' r1 r2)
end
theorem objF_rise (ws : List (BitVec 64)) (t : Nat) : ∀ (n a : Nat) (l : List Nat), objF ws t n a = some l → l.Pairwise (· < ·)
  | 0, a, l, h => by
    have h : some [] = some l := h
    injection h with h
    subst h
    exact List.Pairwise.nil
  | n + 1, a, l, h => by
    have e : objF ws t (n + 1) a = if a < t then (if goodX (ws.getD a 0#64) (t - a) = true then (objF ws t n (a + szX (ws.getD a 0#64))).map (a :: ·) else none) else some [] := rfl
    rw [e] at h
    by_cases h1 : a < t
    · rw [if_pos h1] at h
      by_cases h2 : goodX (ws.getD a 0#64) (t - a) = true
      · rw [if_pos h2] at h
        cases hr : objF ws t n (a + szX (ws.getD a 0#64)) with
        | none => rw [hr] at h; cases h
        | some r =>
          rw [hr] at h
          injection h with h
          subst h
          obtain ⟨_, _, _, hs, _, _⟩ := head_of h2
          refine List.pairwise_cons.2 ⟨fun y hy => ?_, objF_rise ws t n _ r hr⟩
          have := (objF_mem n _ r hr y hy).1
          omega
      · rw [if_neg h2] at h; cases h
    · rw [if_neg h1] at h
      injection h with h
      subst h
      exact List.Pairwise.nil
/-- What readNodes answers of objects that are well. -/
def NodesP (w : World) (ws : List (BitVec 64)) (l : List Nat) (r : Ending) (w' : World) : Prop :=
  ∃ (nv : Value) (mb : Nat) (xs : List Nv), r = .returned (.tuple #[nv, .map (some mb), .int .i64 0]) ∧ NOwn w' w.heap.size nv xs ∧ xs.map normN = l.map (dNode ws l) ∧ MapIs w' (some mb) (numM l) ∧ Below w.heap.size w w'
theorem readNodes_bad (w : World) (B s g : Nat) (v : Value) (ws : List (BitVec 64)) (b t e : Nat) (sp : SpAt w B s g v ws b t e) (h8 : ws.length ≤ 8192) (hbad : ¬ wellE ws b t = 0) :
    Calls Try.prog 76 #[.pointer (some ⟨s, 0, none⟩)] w (RetP (.tuple #[.slice none 0 0, .map none, .int .i64 (wellE ws b t)]) w) := by
  have HW := Lib.hid (well_c w B s g v ws b t e sp h8)
  obtain ⟨er, her⟩ : ∃ er, er = wellE ws b t := ⟨_, rfl⟩
  rw [← her] at HW hbad ⊢
  clear sp h8 her
  go_enter Try.func76, Try.ntmps76
  go_wp2_with fail
  refine Calls.mono HW.out ?_
  rintro r w1 ⟨rfl, b1⟩
  have H1 := Lib.hid b1
  have e1 : (er != 0) = true := by simpa using hbad
  clear b1 hbad
  go_wp2_with fail
  refine bodyPost_ret (v := .tuple #[.slice none 0 0, .map none, .int .i64 er]) (by kernel_rfl) rfl ⟨rfl, H1.out⟩
end Go.Proofs.Ytkkjnahjmomjgaa
/- Rows of the reference's nodes and roots of one's own; append. Conditions: lengths. -/
namespace Go.Proofs.Ytkkjnahjmomjgaa
set_option linter.unusedVariables false
set_option linter.unusedSimpArgs false
open Go.RowKit Go.Maps
set_option maxHeartbeats 4000000
set_option maxRecDepth 100000
/-- A row of nodes of one's own, all of it apart. -/
structure NOwn7 (W : World) (base : Nat) (v : Value) (xs : List Nv) : Prop where
  row : W.ownsRow base 58 2 v xs.length (xs.flatMap Nv.cs)
  each : ∀ x ∈ xs, Ow iV 3 W base x.vp x.ps ∧ Ow b8 5 W base x.vd x.bs
  dist : (v.ownBlock.toList ++ blksN xs).Nodup
def ROwn7 (W : World) (base : Nat) (v : Value) (xs : List Rv) : Prop := W.ownsRow base 59 2 v xs.length (xs.flatMap Rv.cs)
section
variable {W W' : World} {base : Nat} {v v' : Value}
theorem NOwn7.nil (W : World) (base : Nat) : NOwn7 W base (.slice none 0 0) [] := ⟨⟨by simp, .inl ⟨rfl, rfl⟩⟩, fun x h => (by cases h), (by simp [blksN, Value.ownBlock])⟩
theorem ROwn7.nil (W : World) (base : Nat) : ROwn7 W base (.slice none 0 0) [] := ⟨by simp, .inl ⟨rfl, rfl⟩⟩
theorem NOwn7.below {xs : List Nv} (h : NOwn7 W base v xs) (hb : Below W.heap.size W W') : NOwn7 W' base v xs := ⟨ownsRow_below h.row hb, fun x hx => ⟨(h.each x hx).1.below hb, (h.each x hx).2.below hb⟩, h.dist⟩
theorem ROwn7.below {xs : List Rv} (h : ROwn7 W base v xs) (hb : Below W.heap.size W W') : ROwn7 W' base v xs := ownsRow_below h hb
theorem NOwn7.at_ {xs : List Nv} (h : NOwn7 W base v xs) {x : Nv} (hx : x ∈ xs) : x.At W W.heap.size := by
  obtain ⟨h1, h2⟩ := h.each x hx
  obtain ⟨_, _, e1, hc1⟩ := h1.form
  obtain ⟨_, _, e2, hc2⟩ := h2.form
  unfold Nv.vp at e1 h1
  unfold Nv.vd at e2 h2
  injection e1 with _ _ e1
  injection e2 with _ _ e2
  exact ⟨h1.rd, h2.rd, by omega, by omega⟩
theorem NOwn7.rows {A : Option Addr} {n c : Nat} {xs : List Nv} (h : NOwn7 W base (.slice A n c) xs) : NRow W W.heap.size A xs ∧ n = xs.length ∧ xs.length ≤ c := by
  have hl := own_len h.row
  refine ⟨fun i hi => ?_, hl.1, hl.2⟩
  obtain ⟨q, e, hb, hq, hc⟩ := own_cell2 (f := Nv.cs) (fun _ => rfl) h.row i hi
  have e0 := addr_at q (i * 2)
  refine ⟨_, e, hq, ?_, ?_, h.at_ (List.getElem_mem _)⟩
  · rw [e0]; exact hc 0 (by decide)
  · rw [e0]; exact hc 1 (by decide)
theorem ROwn7.rows {A : Option Addr} {n c : Nat} {xs : List Rv} (h : ROwn7 W base (.slice A n c) xs) : RoRow W W.heap.size A xs ∧ n = xs.length ∧ xs.length ≤ c := by
  have hl := own_len h
  refine ⟨fun i hi => ?_, hl.1, hl.2⟩
  obtain ⟨q, e, hb, hq, hc⟩ := own_cell2 (f := Rv.cs) (fun _ => rfl) h i hi
  have e0 := addr_at q (i * 2)
  refine ⟨_, e, hq, ?_, ?_⟩
  · rw [e0]; exact hc 0 (by decide)
  · rw [e0]; exact hc 1 (by decide)
theorem blks_lt7 {xs : List Nv} (h : NOwn7 W base v xs) : ∀ k ∈ v.ownBlock.toList ++ blksN xs, k < W.heap.size := by
  intro k hk
  rcases List.mem_append.1 hk with hk | hk
  · exact (World.ownsRow.lt h.row k (by simpa using hk)).2
  · obtain ⟨x, hx, hk⟩ := List.mem_flatMap.1 hk
    rcases List.mem_append.1 hk with hk | hk
    · exact ((h.each x hx).1.lt k (by simpa using hk)).2
    · exact ((h.each x hx).2.lt k (by simpa using hk)).2
theorem blks_ge7 {xs : List Nv} (h : NOwn7 W base v xs) : ∀ k ∈ v.ownBlock.toList ++ blksN xs, base ≤ k := by
  intro k hk
  rcases List.mem_append.1 hk with hk | hk
  · exact (World.ownsRow.lt h.row k (by simpa using hk)).1
  · obtain ⟨x, hx, hk⟩ := List.mem_flatMap.1 hk
    rcases List.mem_append.1 hk with hk | hk
    · exact ((h.each x hx).1.lt k (by simpa using hk)).1
    · exact ((h.each x hx).2.lt k (by simpa using hk)).1
/-- Another block is changed. -/
theorem NOwn7.grown {xs : List Nv} {q : Nat} (h : NOwn7 W base v xs) (hg : W.grownBy W' (some q)) (hq : q ∉ v.ownBlock.toList ++ blksN xs) : NOwn7 W' base v xs := by
  have key : ∀ u : Value, (∀ k, u.ownBlock = some k → k ∈ v.ownBlock.toList ++ blksN xs) → u.ownBlock = none ∨ u.ownBlock ≠ some q := fun u hu => by
    cases e : u.ownBlock with
    | none => exact .inl rfl
    | some k => exact .inr (fun e2 => hq (by injection e2 with e2; exact e2 ▸ hu k e))
  refine ⟨World.ownsRow.kept h.row hg (key _ fun k hk => by simp [hk]), fun y hy => ?_, h.dist⟩
  obtain ⟨g1, g2⟩ := h.each y hy
  exact ⟨g1.kept hg (key _ fun k hk => List.mem_append.2 (.inr (List.mem_flatMap.2 ⟨y, hy, by simp [hk]⟩))), g2.kept hg (key _ fun k hk => List.mem_append.2 (.inr (List.mem_flatMap.2 ⟨y, hy, by simp [hk]⟩)))⟩
theorem NOwn7.mono {b2 : Nat} {xs : List Nv} (h : NOwn7 W base v xs) (hb : b2 ≤ base) : NOwn7 W b2 v xs := by
  refine ⟨?_, fun x hx => ⟨(h.each x hx).1.mono hb, (h.each x hx).2.mono hb⟩, h.dist⟩
  obtain ⟨h1, h2⟩ := h.row
  refine ⟨h1, ?_⟩
  rcases h2 with h2 | ⟨g, cap, cur, e, hg, r⟩
  · exact .inl h2
  · exact .inr ⟨g, cap, cur, e, Nat.le_trans hb hg, r⟩
theorem ROwn7.mono {b2 : Nat} {xs : List Rv} (h : ROwn7 W base v xs) (hb : b2 ≤ base) : ROwn7 W b2 v xs := by
  obtain ⟨h1, h2⟩ := h
  refine ⟨h1, ?_⟩
  rcases h2 with h2 | ⟨g, cap, cur, e, hg, r⟩
  · exact .inl h2
  · exact .inr ⟨g, cap, cur, e, Nat.le_trans hb hg, r⟩
/-- A node more: its rows were made behind S, the row's block is the old one or newer than they. -/
theorem NOwn7.snoc {W1 : World} {xs : List Nv} {x : Nv} (h : NOwn7 W base v xs) (hb1 : Below W.heap.size W W1) (hx : Ow iV 3 W1 base x.vp x.ps ∧ Ow b8 5 W1 base x.vd x.bs)
    (hf : (∀ k, x.vp.ownBlock = some k → W.heap.size ≤ k) ∧ (∀ k, x.vd.ownBlock = some k → W.heap.size ≤ k) ∧ (∀ k, x.vp.ownBlock = some k → x.vd.ownBlock ≠ some k))
    (ho : W'.ownsRow base 58 2 v' (xs.length + 1) (xs.flatMap Nv.cs ++ x.cs)) (hg : W1.grownBy W' v.ownBlock) (hv : v'.ownBlock = v.ownBlock ∨ v'.ownBlock = some W1.heap.size) : NOwn7 W' base v' (xs ++ [x]) := by
  have hl := blks_lt7 h
  have hs1 := hb1.size
  have hnd := List.nodup_append.1 h.dist
  have hvn : ∀ k, v.ownBlock = some k → k ∉ blksN xs := fun k e hk => hnd.2.2 k (by simp [e]) k hk rfl
  have hne : ∀ k, k ∈ blksN xs ∨ x.vp.ownBlock = some k ∨ x.vd.ownBlock = some k → v.ownBlock ≠ some k := by
    rintro k (hk | hk | hk) e
    · exact hvn k e hk
    · have h1 := hf.1 k hk
      have h2 := hl k (by simp [e])
      omega
    · have h1 := hf.2.1 k hk
      have h2 := hl k (by simp [e])
      omega
  have key : ∀ u : Value, (∀ k, u.ownBlock = some k → v.ownBlock ≠ some k) → u.ownBlock = none ∨ u.ownBlock ≠ v.ownBlock := fun u hu => by
    cases e : u.ownBlock with
    | none => exact .inl rfl
    | some k => exact .inr (fun e2 => hu k e e2.symm)
  refine ⟨by rw [List.length_append, List.flatMap_append]; simpa using ho, fun y hy => ?_, ?_⟩
  · rcases List.mem_append.1 hy with hy | hy
    · obtain ⟨g1, g2⟩ := h.each y hy
      refine ⟨(g1.below hb1).kept hg (key _ fun k hk => hne k (.inl (List.mem_flatMap.2 ⟨y, hy, by simp [hk]⟩))), (g2.below hb1).kept hg (key _ fun k hk => hne k (.inl (List.mem_flatMap.2 ⟨y, hy, by simp [hk]⟩)))⟩
    · obtain rfl : y = x := by simpa using hy
      exact ⟨hx.1.kept hg (key _ fun k hk => hne k (.inr (.inl hk))), hx.2.kept hg (key _ fun k hk => hne k (.inr (.inr hk)))⟩
  · rw [blks_app]
    have hxl : ∀ k, (x.vp.ownBlock = some k ∨ x.vd.ownBlock = some k) → W.heap.size ≤ k ∧ k < W1.heap.size := by
      rintro k (hk | hk)
      · exact ⟨hf.1 k hk, (hx.1.lt k hk).2⟩
      · exact ⟨hf.2.1 k hk, (hx.2.lt k hk).2⟩
    have hbx : ∀ k, k ∈ blksN [x] ↔ (x.vp.ownBlock = some k ∨ x.vd.ownBlock = some k) := fun k => by simp [blksN]
    have hvb : ∀ k, v'.ownBlock = some k → k ∉ blksN xs ++ blksN [x] := by
      intro k hk hm
      rcases hv with e | e
      · rw [e] at hk
        rcases List.mem_append.1 hm with hm | hm
        · exact hvn k hk hm
        · have h1 := hxl k ((hbx k).1 hm)
          have h2 := hl k (by simp [hk])
          omega
      · rw [e] at hk
        injection hk with hk
        rcases List.mem_append.1 hm with hm | hm
        · have h2 := hl k (by simp [hm])
          omega
        · have h1 := hxl k ((hbx k).1 hm)
          omega
    refine List.nodup_append.2 ⟨by cases v'.ownBlock <;> simp, List.nodup_append.2 ⟨hnd.2.1, ?_, fun a ha b hb e => ?_⟩, fun a ha b hb e => hvb a (by simpa using ha) (e ▸ hb)⟩
    · have e : blksN [x] = x.vp.ownBlock.toList ++ x.vd.ownBlock.toList := by simp [blksN]
      rw [e]
      refine List.nodup_append.2 ⟨by cases x.vp.ownBlock <;> simp, by cases x.vd.ownBlock <;> simp, fun a ha b hb e => ?_⟩
      exact hf.2.2 a (by simpa using ha) (by rw [e]; simpa using hb)
    · have h1 := hxl b ((hbx b).1 hb)
      have h2 := hl a (by simp [ha])
      omega
end
theorem node_info7 : ∃ i, Try.prog.info? 58 = some i ∧ i.zero = some (.agg #[.slice none 0 0, .slice none 0 0]) ∧ i.size = 2 ∧ i.bytes = 48 := by
  have h : (Try.prog.info? 58).map (fun i => (i.zero, i.size, i.bytes)) = some (some (.agg #[.slice none 0 0, .slice none 0 0]), 2, 48) := by kernel_rfl
  obtain ⟨i, h1, h2, h3, h4⟩ := info_parts h
  exact ⟨i, h1, h2, h3, h4⟩
theorem root_info7 : ∃ i, Try.prog.info? 59 = some i ∧ i.zero = some (.agg #[.string ⟨#[]⟩, .int .i64 0]) ∧ i.size = 2 ∧ i.bytes = 24 := by
  have h : (Try.prog.info? 59).map (fun i => (i.zero, i.size, i.bytes)) = some (some (.agg #[.string ⟨#[]⟩, .int .i64 0]), 2, 24) := by kernel_rfl
  obtain ⟨i, h1, h2, h3, h4⟩ := info_parts h
  exact ⟨i, h1, h2, h3, h4⟩
section
variable {ops : Array Oper} {rest : List Oper} {o : Oper} {a : Act} {W : World} {Q : Exit → Act → World → Prop}
/-- append(nodes, x), x's rows being made behind W0. -/
theorem wp_appN7 (hgd : o.guard = none) (s y : Operand) (ho : o.op = .call { callee := .builtin .append, args := #[s, y], argTypes := #[28, 28] })
    (W0 : World) (base : Nat) (v : Value) (xs : List Nv) (x : Nv) (hs : a.eval s = v) (h : NOwn7 W0 base v xs) (hb : Below W0.heap.size W0 W) (hx : Ow iV 3 W base x.vp x.ps ∧ Ow b8 5 W base x.vd x.bs)
    (hf : (∀ k, x.vp.ownBlock = some k → W0.heap.size ≤ k) ∧ (∀ k, x.vd.ownBlock = some k → W0.heap.size ≤ k) ∧ (∀ k, x.vp.ownBlock = some k → x.vd.ownBlock ≠ some k))
    (q c : Nat) (hy : a.eval y = .slice (some ⟨q, 0, none⟩) 1 c) (c0 : W.cell? ⟨q, 0, none⟩ = some x.vp) (c1 : W.cell? ⟨q, 1, none⟩ = some x.vd) (hl : xs.length ≤ 100000) (hbase : base ≤ W0.heap.size)
    (hk : ∀ v' w', NOwn7 w' base v' (xs ++ [x]) → Below base W w' → wpList Try.prog ops Q rest (a.put o.dst v') w') : wpList Try.prog ops Q (o :: rest) a W := by
  obtain ⟨i0, hi, hz0, hz1, hz2⟩ := node_info7
  have hbW : base ≤ W.heap.size := Nat.le_trans hbase hb.size
  have hrow : W.ownsRow base 58 2 v xs.length (xs.flatMap Nv.cs) := ownsRow_below h.row hb
  refine wp_appR 2 i0 Try.underlying28 hi hz0 hz1 hz2 (by rfl) (by decide) hgd s y ho base v xs.length (xs.flatMap Nv.cs) hs hrow ⟨q, 0, none⟩ 1 c x.cs hy rfl (fun j u hu => ?_) (fun u hu => ?_) (by unfold maxLen; omega) (by omega) hbW ?_
  · match j with
    | 0 =>
      have e : u = x.vp := by simpa [Nv.cs] using hu.symm
      rw [e, addr_at]
      exact c0
    | 1 =>
      have e : u = x.vd := by simpa [Nv.cs] using hu.symm
      rw [e, addr_at]
      exact c1
    | j + 2 => simp [Nv.cs] at hu
  · unfold Nv.cs at hu
    rcases List.mem_cons.1 hu with rfl | hu
    · rfl
    · rcases List.mem_cons.1 hu with rfl | hu
      · rfl
      · cases hu
  · intro v' w' ho' hb' hg' hv'
    exact hk v' w' (h.snoc hb hx hf ho' hg' hv') hb'
/-- append(roots, r). -/
theorem wp_appR7 (hgd : o.guard = none) (s y : Operand) (ho : o.op = .call { callee := .builtin .append, args := #[s, y], argTypes := #[29, 29] })
    (base : Nat) (v : Value) (xs : List Rv) (x : Rv) (hs : a.eval s = v) (h : ROwn7 W base v xs)
    (q c : Nat) (hy : a.eval y = .slice (some ⟨q, 0, none⟩) 1 c) (c0 : W.cell? ⟨q, 0, none⟩ = some (.string x.s)) (c1 : W.cell? ⟨q, 1, none⟩ = some (.int .i64 x.t)) (hl : xs.length ≤ 100000) (hbW : base ≤ W.heap.size)
    (hk : ∀ v' w', ROwn7 w' base v' (xs ++ [x]) → Below base W w' → W.grownBy w' v.ownBlock → wpList Try.prog ops Q rest (a.put o.dst v') w') : wpList Try.prog ops Q (o :: rest) a W := by
  obtain ⟨i0, hi, hz0, hz1, hz2⟩ := root_info7
  refine wp_appR 2 i0 Try.underlying29 hi hz0 hz1 hz2 (by rfl) (by decide) hgd s y ho base v xs.length (xs.flatMap Rv.cs) hs h ⟨q, 0, none⟩ 1 c x.cs hy rfl (fun j u hu => ?_) (fun u hu => ?_) (by unfold maxLen; omega) (by omega) hbW ?_
  · match j with
    | 0 =>
      have e : u = .string x.s := by simpa [Rv.cs] using hu.symm
      rw [e, addr_at]
      exact c0
    | 1 =>
      have e : u = .int .i64 x.t := by simpa [Rv.cs] using hu.symm
      rw [e, addr_at]
      exact c1
    | j + 2 => simp [Rv.cs] at hu
  · unfold Rv.cs at hu
    rcases List.mem_cons.1 hu with rfl | hu
    · rfl
    · rcases List.mem_cons.1 hu with rfl | hu
      · rfl
      · cases hu
  · intro v' w' ho' hb' hg' hv'
    exact hk v' w' (by unfold ROwn7; rw [List.length_append, List.flatMap_append]; simpa using ho') hb' hg'
end
theorem nown_form7 {W : World} {base : Nat} {v : Value} {xs : List Nv} (h : NOwn7 W base v xs) : ∃ A c, v = .slice A xs.length c := own_form h.row
theorem rown_form7 {W : World} {base : Nat} {v : Value} {xs : List Rv} (h : ROwn7 W base v xs) : ∃ A c, v = .slice A xs.length c := own_form h
end Go.Proofs.Ytkkjnahjmomjgaa
/- The lowest 16 bits of a word. No conditions. -/
namespace Go.Proofs.Ytkkjnahjmomjgaa
set_option linter.unusedVariables false
set_option linter.unusedSimpArgs false
open Go.RowKit
set_option maxHeartbeats 1000000
theorem field_nR (x : BitVec 64) : U64 (fieldB x 0 16) = ((x.toNat % 65536 : Nat) : Int) := by
  unfold fieldB
  rw [if_pos (by decide)]
  have e : x >>> (0 : Int).toNat = x := by
    show x >>> (0 : Nat) = x
    exact BitVec.ushiftRight_zero _
  rw [e]
  unfold U64
  rw [BitVec.toNat_and, lowB_nat 16 (by decide) (by decide)]
  show ((x.toNat &&& (2 ^ 16 - 1) : Nat) : Int) = _
  rw [Nat.and_two_pow_sub_one_eq_mod]
end Go.Proofs.Ytkkjnahjmomjgaa
/- What is wrong of words (pure); no program but names. No conditions. -/
namespace Go.Proofs.Ytkkjnahjmomjgaa
set_option linter.unusedVariables false
set_option linter.unusedSimpArgs false
open Go.RowKit Go.Maps
set_option maxHeartbeats 4000000
set_option maxRecDepth 100000
def magicS : ByteArray := ⟨#[109, 97, 103, 105, 99]⟩
def sizeS : ByteArray := ⟨#[115, 105, 122, 101]⟩
theorem ptrF_at (ws : List (BitVec 64)) (p : List Nat) (a n k : Nat) : ptrF ws p a (n + 1) k = (if ptrN ws p a k = true then [] else [(a + 1 + k, ptrS)]) ++ ptrF ws p a n (k + 1) := by
  show (if ptrN ws p a k = true then ptrF ws p a n (k + 1) else (a + 1 + k, ptrS) :: ptrF ws p a n (k + 1)) = _
  by_cases h : ptrN ws p a k = true
  · rw [if_pos h, if_pos h]; rfl
  · rw [if_neg h, if_neg h]; rfl
theorem found_good (ws : List (BitVec 64)) (t : Nat) : ∀ (n a : Nat), ∀ y ∈ (foundN ws t n a).1, a ≤ y ∧ y < t ∧ goodX (ws.getD y 0#64) (t - y) = true
  | 0, a, y, h => by cases h
  | n + 1, a, y, h => by
    unfold foundN at h
    by_cases h1 : a < t
    · rw [if_pos h1] at h
      by_cases h2 : goodX (ws.getD a 0#64) (t - a) = true
      · rw [if_pos h2] at h
        rcases List.mem_cons.1 h with rfl | h
        · exact ⟨Nat.le_refl _, h1, h2⟩
        · have := found_good ws t n _ y h
          exact ⟨by omega, this.2⟩
      · rw [if_neg h2] at h; cases h
    · rw [if_neg h1] at h; cases h
theorem found_len (ws : List (BitVec 64)) (t : Nat) : ∀ (n a : Nat), (foundN ws t n a).1.length ≤ t - a
  | 0, a => Nat.zero_le _
  | n + 1, a => by
    unfold foundN
    by_cases h1 : a < t
    · rw [if_pos h1]
      by_cases h2 : goodX (ws.getD a 0#64) (t - a) = true
      · rw [if_pos h2]
        have h3 := found_len ws t n (a + szX (ws.getD a 0#64))
        obtain ⟨_, _, _, hs, _, _⟩ := head_of h2
        show (foundN ws t n _).1.length + 1 ≤ _
        omega
      · rw [if_neg h2]; exact Nat.zero_le _
    · rw [if_neg h1]; exact Nat.zero_le _
def nameS : ByteArray := ⟨#[110, 97, 109, 101]⟩
def rootS : ByteArray := ⟨#[114, 111, 111, 116]⟩
def leadB (ws : List (BitVec 64)) (p : List Nat) (j : Nat) : Bool := decide ((ws.getD j 0#64).toNat = 0 ∨ (1 ≤ (ws.getD j 0#64).toNat ∧ (ws.getD j 0#64).toNat - 1 ∈ p))
def lessS (a b : ByteArray) : Bool := Op.bytesLess a.toList b.toList || a.toList == b.toList
def nmAt (ws : List (BitVec 64)) (i : Nat) : Nm := bytesM ws (8 * (2 + 5 * i)) 32
def nmS (ws : List (BitVec 64)) (i : Nat) : ByteArray := strB (cutN (nmAt ws i))
/-- What is wrong of a Root, the last name that may be one being given. -/
def rootE (ws : List (BitVec 64)) (p : List Nat) (i : Nat) (ab : ByteArray) : List (Nat × ByteArray) := (if nmOk (nmAt ws i) = true ∧ lessS (nmS ws i) ab = false then [] else [(2 + 5 * i, nameS)]) ++ (if leadB ws p (2 + 5 * i + 4) = true then [] else [(2 + 5 * i + 4, rootS)])
def rootF (ws : List (BitVec 64)) (p : List Nat) : Nat → Nat → ByteArray → List (Nat × ByteArray)
  | 0, _, _ => []
  | n + 1, i, ab => rootE ws p i ab ++ rootF ws p n (i + 1) (if nmOk (nmAt ws i) = true then nmS ws i else ab)
/-- What is wrong of words that say their own length. -/
def insF (ws : List (BitVec 64)) (R : Nat) : List (Nat × ByteArray) := badF (foundN ws ws.length (ws.length + 1) (2 + 5 * R)).2 ++ allE ws (foundN ws ws.length (ws.length + 1) (2 + 5 * R)).1 (foundN ws ws.length (ws.length + 1) (2 + 5 * R)).1 ++ rootF ws (foundN ws ws.length (ws.length + 1) (2 + 5 * R)).1 R 0 ⟨#[]⟩
def magF (ws : List (BitVec 64)) : List (Nat × ByteArray) := if ws.length = 0 ∨ ws.getD 0 0#64 ≠ 1296125772#64 then [(0, magicS)] else []
def nRt (ws : List (BitVec 64)) : Nat := (ws.getD 1 0#64).toNat % 65536
/-- Does the second word say what is? -/
def szOk (ws : List (BitVec 64)) : Bool := decide (2 ≤ ws.length ∧ U64 (fieldB (ws.getD 1 0#64) 48 16) = 0 ∧ U64 (fieldB (ws.getD 1 0#64) 16 32) = (ws.length : Int) ∧ nRt ws ≤ 64 ∧ 2 + 5 * nRt ws ≤ ws.length)
def imgF (ws : List (BitVec 64)) : List (Nat × ByteArray) := magF ws ++ (if szOk ws = true then insF ws (nRt ws) else [(1, sizeS)])
theorem of_ansk {P : Program} {f : FuncId} {args : Array Value} {v : Value} {w : World} (h : Ans P f args w v) : Calls P f args w fun e w2 => ∃ u, e = .returned u ∧ Below w.heap.size w w2 ∧ IsV v u w2 :=
  h.mono fun _ _ h => ⟨_, h.1, h.2.below _, rfl⟩
end Go.Proofs.Ytkkjnahjmomjgaa
/- The document's name: a Root's. Conditions: lengths. -/
namespace Go.Proofs.Ytkkjnahjmomjgaa
set_option linter.unusedVariables false
set_option linter.unusedSimpArgs false
open Go.RowKit Go.Maps
set_option maxHeartbeats 4000000
set_option maxRecDepth 100000
theorem cut_get {k : Nm} {j : Nat} (h : j < (cutN k).length) : (cutN k)[j]? = k[j]? := by
  have h5 := congrArg (fun l : Nm => l[j]?) (cut_take k)
  simp only [List.getElem?_take, if_pos h] at h5
  exact h5.symm
theorem cut_lt {k : Nm} {j : Nat} (h : j < (cutN k).length) : k.getD j 0#8 ≠ 0#8 := by
  have h1 : (cutN k)[j] ∈ cutN k := List.getElem_mem h
  have h2 := cut_mem k _ h1
  have h4 : k.getD j 0#8 = (cutN k)[j] := by
    rw [List.getD_eq_getElem?_getD, ← cut_get h, List.getElem?_eq_getElem h]
    rfl
  rw [h4]
  exact h2
theorem cut_end : ∀ (k : Nm), (cutN k).length < k.length → k.getD (cutN k).length 0#8 = 0#8
  | [], h => absurd h (Nat.not_lt_zero _)
  | x :: k, h => by
    by_cases hx : x = 0#8
    · subst hx
      have e : cutN (0#8 :: k) = [] := by unfold cutN; rw [List.takeWhile_cons]; simp
      rw [e]
      rfl
    · have e : cutN (x :: k) = x :: cutN k := by unfold cutN; rw [List.takeWhile_cons]; simp [hx]
      rw [e] at h ⊢
      rw [List.length_cons, List.length_cons] at h
      rw [List.length_cons, List.getD_cons_succ]
      exact cut_end k (by omega)
theorem pad_cut {k : Nm} (hk : nW k) (h : ∀ j, (cutN k).length ≤ j → j < 32 → k.getD j 0#8 = 0#8) : padNm (cutN k) = k := by
  have hl := cut_len k
  have h32 : k.length = 32 := hk
  apply List.ext_getElem?
  intro j
  unfold padNm
  by_cases hj : j < (cutN k).length
  · rw [List.getElem?_append_left hj]
    exact cut_get hj
  · rw [List.getElem?_append_right (by omega), List.getElem?_replicate]
    by_cases h3 : j < 32
    · rw [if_pos (by omega)]
      have h4 := h j (by omega) h3
      rw [List.getD_eq_getElem?_getD, List.getElem?_eq_getElem (by omega)] at h4
      rw [List.getElem?_eq_getElem (by omega)]
      exact congrArg some h4.symm
    · rw [if_neg (by omega), List.getElem?_eq_none (by omega)]
theorem nmOk_no {k : Nm} {j : Nat} (h1 : (cutN k).length ≤ j) (h2 : j < k.length) (h : k.getD j 0#8 ≠ 0#8) : nmOk k = false := by
  refine decide_eq_false fun hh => h ?_
  have e := hh.2
  have h3 : (padNm (cutN k)).getD j 0#8 = 0#8 := by
    unfold padNm
    rw [List.getD_eq_getElem?_getD, List.getElem?_append_right h1, List.getElem?_replicate]
    split <;> rfl
  rw [e] at h3
  exact h3
theorem nmOk_yes {k : Nm} (hk : nW k) (h : padNm (cutN k) = k) : nmOk k = decide (0 < (cutN k).length) := by
  unfold nmOk
  have hl := cut_len k
  have h32 : k.length = 32 := hk
  by_cases h0 : 0 < (cutN k).length
  · rw [decide_eq_true h0]
    exact decide_eq_true ⟨⟨h0, by omega, fun x hx => cut_mem k x hx⟩, h⟩
  · rw [decide_eq_false h0]
    exact decide_eq_false fun hh => h0 hh.1.1
def NameR (k : Nm) (w : World) (r : Ending) (w' : World) : Prop := ∃ s : ByteArray, r = .returned (.tuple #[.string s, .bool (nmOk k)]) ∧ (nmOk k = true → s = strB (cutN k)) ∧ Below w.heap.size w w'
theorem rname_c (w : World) (A : Option Addr) (c : Nat) (ws : List (BitVec 64)) (hr : Rd u64v w w.heap.size A ws) (h8 : ws.length ≤ 8192) (a : Nat) (ha : a + 4 ≤ ws.length) :
    Calls Try.prog 49 #[.slice A ws.length c, .int .i64 (a : Int)] w (NameR (bytesM ws (8 * a) 32) w) := by
  obtain ⟨k, hk⟩ : ∃ k, k = bytesM ws (8 * a) 32 := ⟨_, rfl⟩
  have hkw : nW k := by rw [hk]; unfold nW bytesM; simp
  have HBy := Lib.hid (rbytesR_c w A c ws (8 * a) 32 hr (by omega) h8)
  rw [← hk] at HBy ⊢
  obtain ⟨E, hE⟩ : ∃ E, E = NameR k w := ⟨_, rfl⟩
  rw [← hE]
  have HE := Lib.hid hE
  obtain ⟨n, hn⟩ : ∃ n, n = ws.length := ⟨_, rfl⟩
  obtain ⟨a8, ha8⟩ : ∃ a8, a8 = 8 * a := ⟨_, rfl⟩
  have q1 : (8 : Int) * (a : Int) = (a8 : Int) := by omega
  have q2 : (a8 : Int) ≤ 65536 := by omega
  have q3 : (0 : Int) ≤ (a : Int) := by omega
  have q4 : (a : Int) ≤ 8192 := by omega
  obtain ⟨C, hC⟩ : ∃ C, C = (cutN k).length := ⟨_, rfl⟩
  have hC32 : C ≤ 32 := by rw [hC]; have := cut_len k; have h32 : k.length = 32 := hkw; omega
  have hkl : k.length = 32 := hkw
  have HK := Lib.hid (And.intro hkw (And.intro hC (And.intro hC32 hkl)))
  rw [← ha8, ← hn] at HBy
  rw [← hn]
  clear hr h8 ha hk hkw hE hn ha8 hC hC32 hkl
  go_enter Try.func49, Try.ntmps49
  go_wp2_with fail
  refine Calls.mono HBy.out ?_
  rintro r w1 ⟨bA, bc, rfl, hbc, hob, b1⟩
  have hrd := hob.rd
  rw [HK.out.2.2.2] at hbc ⊢
  obtain ⟨ad, rfl⟩ : ∃ ad, bA = some ad := by
    obtain ⟨ad, had, _, _⟩ := hrd 0 (by rw [HK.out.2.2.2]; decide)
    exact ⟨ad, had⟩
  have H1 := Lib.hid (And.intro hrd b1)
  have hbcI : (32 : Int) ≤ (bc : Int) := by omega
  clear hob b1 hrd HBy hbc
  go_wp2_with fail
  go_loopw [7] (fun x W => ∃ i : Nat, x = .int .i64 i ∧ i ≤ C ∧ W = w1) (fun x _ => 32 - (Go.RowKit.intOf x).toNat)
  case atStart => exact ⟨0, rfl, Nat.zero_le _, rfl⟩
  case round =>
    obtain ⟨i, rfl, hi, rfl⟩ := hrel
    have i0 : (0 : Int) ≤ (i : Int) := by omega
    by_cases hlt : i < C
    · have i1 : (i : Int) < 32 := by have := HK.out.2.2.1; omega
      have hne := cut_lt (k := k) (j := i) (by rw [← HK.out.2.1]; exact hlt)
      have hik : i < k.length := by rw [HK.out.2.2.2]; have := HK.out.2.2.1; omega
      obtain ⟨ad', had', hadl, hc⟩ := H1.out.1 i hik
      injection had' with had'
      subst had'
      obtain ⟨y, hy⟩ : ∃ y, y = k[i] := ⟨_, rfl⟩
      have hye : k.getD i 0#8 = y := by rw [hy, List.getD_eq_getElem?_getD, List.getElem?_eq_getElem hik]; rfl
      rw [hye] at hne
      rw [← hy] at hc
      unfold b8 at hc
      have hyn : (U8 y != 0) = true := by
        rw [bne_iff_ne]
        intro h
        exact hne (U8_inj (show U8 y = U8 0#8 from h))
      obtain ⟨yv, hyv⟩ : ∃ yv, yv = U8 y := ⟨_, rfl⟩
      rw [← hyv] at hc hyn
      clear hy hye hne hyv hadl hik
      go_wp2_with fail
      go_roundw
      case rel => exact ⟨i + 1, by go_num, by omega, by first | rfl | trivial⟩
      case measure => simp [Go.RowKit.intOf]; omega
    · have hiC : i = C := by omega
      subst hiC
      have hCl := HK.out.2.2.1
      by_cases h32 : i < 32
      · have i1 : (i : Int) < 32 := by omega
        have hik : i < k.length := by rw [HK.out.2.2.2]; exact h32
        have hz := cut_end k (by rw [← HK.out.2.1]; exact hik)
        rw [← HK.out.2.1] at hz
        obtain ⟨ad', had', hadl, hc⟩ := H1.out.1 i hik
        injection had' with had'
        subst had'
        have hye : k[i] = 0#8 := by rw [← hz, List.getD_eq_getElem?_getD, List.getElem?_eq_getElem hik]; rfl
        rw [hye] at hc
        replace hc : wr.cell? (ad.add i) = some (.int .u8 0) := hc
        clear hz hye hadl hik hCl hlt hi
        go_wp2_with fail
        have HS2 : Hid (∀ j, i ≤ j → j < i → k.getD j 0#8 = 0#8) := Lib.hid (fun j h1 h2 => by omega)
        go_loopw [8] (fun x W => ∃ j8 : Nat, x = .int .i64 j8 ∧ i ≤ j8 ∧ j8 ≤ 32 ∧ W = wr ∧ Hid (∀ j, i ≤ j → j < j8 → k.getD j 0#8 = 0#8)) (fun x _ => 32 - (Go.RowKit.intOf x).toNat)
        case atStart => exact ⟨i, rfl, Nat.le_refl _, HK.out.2.2.1, rfl, HS2⟩
        case round =>
          obtain ⟨j8, rfl, hi1, hi2, rfl, hS⟩ := hrel
          clear HS2
          have j0 : (0 : Int) ≤ (j8 : Int) := by omega
          by_cases hlt2 : j8 < 32
          · have i1 : (j8 : Int) < 32 := by omega
            have hik : j8 < k.length := by rw [HK.out.2.2.2]; exact hlt2
            obtain ⟨ad', had', hadl, hc⟩ := H1.out.1 j8 hik
            injection had' with had'
            subst had'
            obtain ⟨y, hy⟩ : ∃ y, y = k[j8] := ⟨_, rfl⟩
            have hye : k.getD j8 0#8 = y := by rw [hy, List.getD_eq_getElem?_getD, List.getElem?_eq_getElem hik]; rfl
            rw [← hy] at hc
            unfold b8 at hc
            by_cases hy0 : y = 0#8
            · have HN : Hid (∀ j, i ≤ j → j < j8 + 1 → k.getD j 0#8 = 0#8) := Lib.hid (fun j h1 h2 => by
                by_cases e : j = j8
                · rw [e, hye, hy0]
                · exact hS.out j h1 (by omega))
              subst hy0
              replace hc : wr.cell? (ad.add j8) = some (.int .u8 0) := hc
              clear hy hye hik hadl hS
              go_wp2_with fail
              go_roundw
              case rel => exact ⟨j8 + 1, by go_num, by omega, by omega, (by first | rfl | trivial), HN⟩
              case measure => simp [Go.RowKit.intOf]; omega
            · have hyn : (U8 y != 0) = true := by
                rw [bne_iff_ne]
                intro h
                exact hy0 (U8_inj (show U8 y = U8 0#8 from h))
              have HNo := Lib.hid (nmOk_no (k := k) (j := j8) (by rw [← HK.out.2.1]; exact hi1) hik (by rw [hye]; exact hy0))
              obtain ⟨yv, hyv⟩ : ∃ yv, yv = U8 y := ⟨_, rfl⟩
              rw [← hyv] at hc hyn
              clear hy hye hik hadl hS hy0 hyv
              go_wp2_with fail
              rw [HE.out]
              exact ⟨⟨#[]⟩, (by rw [HNo.out]; rfl), (fun h => by rw [HNo.out] at h; cases h), H1.out.2⟩
          · have i1 : ¬ (j8 : Int) < 32 := by omega
            have hpad := pad_cut HK.out.1 (fun j h1 h2 => hS.out j (by rw [HK.out.2.1]; exact h1) (by omega))
            have hyes := nmOk_yes HK.out.1 hpad
            rw [← HK.out.2.1] at hyes
            have hrc : Rd b8 wr wr.heap.size (some ad) (cutN k) := by
              have h := H1.out.1.take (cutN k).length
              rwa [cut_take] at h
            have kc := str_conv (cutN k) (some ad) bc _ wr hrc
            rw [← HK.out.2.1] at kc
            obtain ⟨st, hst⟩ : ∃ st, st = strB (cutN k) := ⟨_, rfl⟩
            rw [← hst] at kc
            have CI : (i : Int) ≤ 32 := by have := HK.out.2.2.1; omega
            have C0 : (0 : Int) ≤ (i : Int) := by omega
            have Cb : (i : Int) ≤ (bc : Int) := by omega
            have HY := Lib.hid (And.intro hyes hst)
            clear hyes hst hpad hrc hS
            go_wp2_with fail
            rw [HE.out]
            exact ⟨st, (by rw [HY.out.1]), fun _ => HY.out.2, H1.out.2⟩
      · have i1 : ¬ (i : Int) < 32 := by omega
        clear hCl hlt hi
        go_wp2_with fail
        have HS2 : Hid (∀ j, i ≤ j → j < i → k.getD j 0#8 = 0#8) := Lib.hid (fun j h1 h2 => by omega)
        go_loopw [8] (fun x W => ∃ j8 : Nat, x = .int .i64 j8 ∧ i ≤ j8 ∧ j8 ≤ 32 ∧ W = wr ∧ Hid (∀ j, i ≤ j → j < j8 → k.getD j 0#8 = 0#8)) (fun x _ => 32 - (Go.RowKit.intOf x).toNat)
        case atStart => exact ⟨i, rfl, Nat.le_refl _, HK.out.2.2.1, rfl, HS2⟩
        case round =>
          obtain ⟨j8, rfl, hi1, hi2, rfl, hS⟩ := hrel
          clear HS2
          have j0 : (0 : Int) ≤ (j8 : Int) := by omega
          by_cases hlt2 : j8 < 32
          · have i1 : (j8 : Int) < 32 := by omega
            have hik : j8 < k.length := by rw [HK.out.2.2.2]; exact hlt2
            obtain ⟨ad', had', hadl, hc⟩ := H1.out.1 j8 hik
            injection had' with had'
            subst had'
            obtain ⟨y, hy⟩ : ∃ y, y = k[j8] := ⟨_, rfl⟩
            have hye : k.getD j8 0#8 = y := by rw [hy, List.getD_eq_getElem?_getD, List.getElem?_eq_getElem hik]; rfl
            rw [← hy] at hc
            unfold b8 at hc
            by_cases hy0 : y = 0#8
            · have HN : Hid (∀ j, i ≤ j → j < j8 + 1 → k.getD j 0#8 = 0#8) := Lib.hid (fun j h1 h2 => by
                by_cases e : j = j8
                · rw [e, hye, hy0]
                · exact hS.out j h1 (by omega))
              subst hy0
              replace hc : wr.cell? (ad.add j8) = some (.int .u8 0) := hc
              clear hy hye hik hadl hS
              go_wp2_with fail
              go_roundw
              case rel => exact ⟨j8 + 1, by go_num, by omega, by omega, (by first | rfl | trivial), HN⟩
              case measure => simp [Go.RowKit.intOf]; omega
            · have hyn : (U8 y != 0) = true := by
                rw [bne_iff_ne]
                intro h
                exact hy0 (U8_inj (show U8 y = U8 0#8 from h))
              have HNo := Lib.hid (nmOk_no (k := k) (j := j8) (by rw [← HK.out.2.1]; exact hi1) hik (by rw [hye]; exact hy0))
              obtain ⟨yv, hyv⟩ : ∃ yv, yv = U8 y := ⟨_, rfl⟩
              rw [← hyv] at hc hyn
              clear hy hye hik hadl hS hy0 hyv
              go_wp2_with fail
              rw [HE.out]
              exact ⟨⟨#[]⟩, (by rw [HNo.out]; rfl), (fun h => by rw [HNo.out] at h; cases h), H1.out.2⟩
          · have i1 : ¬ (j8 : Int) < 32 := by omega
            have hpad := pad_cut HK.out.1 (fun j h1 h2 => hS.out j (by rw [HK.out.2.1]; exact h1) (by omega))
            have hyes := nmOk_yes HK.out.1 hpad
            rw [← HK.out.2.1] at hyes
            have hrc : Rd b8 wr wr.heap.size (some ad) (cutN k) := by
              have h := H1.out.1.take (cutN k).length
              rwa [cut_take] at h
            have kc := str_conv (cutN k) (some ad) bc _ wr hrc
            rw [← HK.out.2.1] at kc
            obtain ⟨st, hst⟩ : ∃ st, st = strB (cutN k) := ⟨_, rfl⟩
            rw [← hst] at kc
            have CI : (i : Int) ≤ 32 := by have := HK.out.2.2.1; omega
            have C0 : (0 : Int) ≤ (i : Int) := by omega
            have Cb : (i : Int) ≤ (bc : Int) := by omega
            have HY := Lib.hid (And.intro hyes hst)
            clear hyes hst hpad hrc hS
            go_wp2_with fail
            rw [HE.out]
            exact ⟨st, (by rw [HY.out.1]), fun _ => HY.out.2, H1.out.2⟩
end Go.Proofs.Ytkkjnahjmomjgaa
