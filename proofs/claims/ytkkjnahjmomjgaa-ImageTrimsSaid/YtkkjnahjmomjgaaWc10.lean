/- Texts joined: DcC RdN DcD DcE ImC ApZ EnC EnD. -/
import Derived.Test.YtkkjnahjmomjgaaWc9
import Derived.Test.YtkkjnahjmomjgaaBel
import Derived.Test.YtkkjnahjmomjgaaBitsB
import Derived.Lib.AppendZeros
import Derived.Lib.AppendZerosOnto
import Derived.Lib.ConvBytes
import Derived.Laws.IdiomStrings
/- image.readRoot. Conditions: lengths. -/
namespace Go.Proofs.Ytkkjnahjmomjgaa
set_option linter.unusedVariables false
set_option linter.unusedSimpArgs false
open Go.RowKit Go.Maps
set_option maxHeartbeats 4000000
set_option maxRecDepth 100000
theorem irr7 (Q : Exit → Act → World → Prop) (a0 : Act) (w : World) (ad : Addr) (c mb : Nat) (xs : Nm) (st : ByteArray) (xu z1 z2 nv : Int) (hr : Rd b8 w w.heap.size (some ad) xs) (hn : nW xs) (h1 : IntKind.i64.wrap xu = z1) (h2 : IntKind.i64.wrap (z1 - 1) = z2) (HST : Hid (∀ W, Calls Try.prog 95 #[.agg (nC xs)] W (RetP (.string st) W))) (HLk : Hid (∀ W, Below w.heap.size w W → (Instr.lookup 97 (.map (some mb)) (.int .i64 z2) false).run Try.prog W = .ok (.int .i64 nv) W)) (hsz : a0.tmps.size = 43) (sl2 : a0.tmps.getD 2 undef = .map (some mb)) (sl8 : a0.tmps.getD 8 undef = .slice (some ad) 32 c) (sl10 : a0.tmps.getD 10 undef = .int .u64 xu)
    (fin : ∀ (vals : Nat → Value) (w1 : World), Below w.heap.size w w1 → (IsV (.agg #[.string st, .int .i64 nv])) (vals 9) w1 → wpList Try.prog #[{ dst := none, op := Go.Op.store 56 (Go.Operand.tmp 6) (Go.Operand.tmp 42), type := 0, pos := "", after := #[], guard := none }] (SpineQ (putD vals [33, 34, 35, 36, 37, 38, 39, 40, 41, 42] 0 a0).defers (fun _ => True) (fun a w => wpList Try.prog #[{ dst := some 7, op := Go.Op.assign (Go.Operand.const (Go.Value.int Go.IntKind.i64 0)), type := 34, pos := "", after := #[], guard := none }] Q [{ dst := some 7, op := Go.Op.assign (Go.Operand.const (Go.Value.int Go.IntKind.i64 0)), type := 34, pos := "", after := #[], guard := none }] a w)) [{ dst := none, op := Go.Op.store 56 (Go.Operand.tmp 6) (Go.Operand.tmp 42), type := 0, pos := "", after := #[], guard := none }] (putD vals [33, 34, 35, 36, 37, 38, 39, 40, 41, 42] 0 a0) w1) :
    (Code.region 7 (regIn Try.f77 7) true).wp Try.prog Q a0 w := by
  refine region_by_tail2 (m := 10) (G := fun w w1 => Below w.heap.size w w1) [IsV (.slice (some ad) 32 c),
    IsV (.pointer (some ad)),
    IsV (.agg (nC xs)),
    IsV (.string st),
    IsV (.map (some mb)),
    IsV (.int .u64 xu),
    IsV (.int .i64 z1),
    IsV (.int .i64 z2),
    IsV (.int .i64 nv),
    IsV (.agg #[.string st, .int .i64 nv])]
    [33, 34, 35, 36, 37, 38, 39, 40, 41, 42] (by kernel_rfl) (Gw.drew _) Gw.trans (by rw [hsz]; kernel_rfl) (by kernel_rfl) ?_ ?_ ?_
  · intro f hf
    simp only [List.mem_cons, List.not_mem_nil, or_false] at hf
    rcases hf with rfl | rfl | rfl | rfl | rfl | rfl | rfl | rfl | rfl | rfl <;> intro v a b h g <;> first | exact IsV.mono h
  · refine ⟨?_, ?_, ?_, ?_, ?_, ?_, ?_, ?_, ?_, ?_, trivial⟩
    · exact owes_mv 8 (by kernel_rfl) (by kernel_rfl) (by kernel_rfl) sl8 (fun _ => rfl)
    · refine owes_v (Go.Op.sliceToArrayPointer 120 (Go.Operand.tmp 33)) 0 [0] (by kernel_rfl) (by kernel_rfl) (by kernel_rfl) rfl fun vals w1 ρ hG hF hρ hcst hfun => ?_
      have e33 : ρ (.tmp 33) = .slice (some ad) 32 c := ((hρ 33).trans (slotJ [0] (by rw [hsz]; decide) (by kernel_rfl))).trans (hF 0 (by decide))
      have k := arrN (some ad) c w1
      clear hρ hF hcst hfun sl2 sl8 sl10 fin
      exact opv_val (by go_simp <;> rfl) ⟨gw_self _, rfl⟩
    · refine owes_v (Go.Op.load 120 (Go.Operand.tmp 34)) 120 [1] (by kernel_rfl) (by kernel_rfl) (by kernel_rfl) rfl fun vals w1 ρ hG hF hρ hcst hfun => ?_
      have e34 : ρ (.tmp 34) = .pointer (some ad) := ((hρ 34).trans (slotJ [1] (by rw [hsz]; decide) (by kernel_rfl))).trans (hF 1 (by decide))
      clear hρ hF hcst hfun sl2 sl8 sl10 fin
      exact opv_ldRd e34 (hr.below hG) hn
    · refine owes_v (Go.Op.call { callee := Go.Callee.value (Go.Operand.func 95), args := #[Go.Operand.tmp 35], argTypes := #[120] }) 9 [2] (by kernel_rfl) (by kernel_rfl) (by kernel_rfl) rfl fun vals w1 ρ hG hF hρ hcst hfun => ?_
      have e35 : ρ (.tmp 35) = .agg (nC xs) := ((hρ 35).trans (slotJ [2] (by rw [hsz]; decide) (by kernel_rfl))).trans (hF 2 (by decide))
      clear hρ hF hcst sl2 sl8 sl10 fin
      exact opv_enter (by go_simp <;> rfl) (of_ret (HST.out w1))
    · exact owes_mv 2 (by kernel_rfl) (by kernel_rfl) (by kernel_rfl) sl2 (fun _ => rfl)
    · exact owes_mv 10 (by kernel_rfl) (by kernel_rfl) (by kernel_rfl) sl10 (fun _ => rfl)
    · refine owes_v (Go.Op.convert 57 3 (Go.Operand.tmp 38)) 3 [5] (by kernel_rfl) (by kernel_rfl) (by kernel_rfl) rfl fun vals w1 ρ hG hF hρ hcst hfun => ?_
      have e38 : ρ (.tmp 38) = .int .u64 xu := ((hρ 38).trans (slotJ [5] (by rw [hsz]; decide) (by kernel_rfl))).trans (hF 5 (by decide))
      have k := h1
      clear hρ hF hcst hfun sl2 sl8 sl10 fin
      exact opv_val (by go_simp <;> rfl) ⟨gw_self _, rfl⟩
    · refine owes_v (Go.Op.binOp Go.BinOp.sub 3 (Go.Operand.tmp 39) (Go.Operand.const (Go.Value.int Go.IntKind.i64 1)) 3) 3 [6] (by kernel_rfl) (by kernel_rfl) (by kernel_rfl) rfl fun vals w1 ρ hG hF hρ hcst hfun => ?_
      have e39 : ρ (.tmp 39) = .int .i64 z1 := ((hρ 39).trans (slotJ [6] (by rw [hsz]; decide) (by kernel_rfl))).trans (hF 6 (by decide))
      have k := h2
      clear hρ hF hfun sl2 sl8 sl10 fin
      exact opv_val (by go_simp <;> rfl) ⟨gw_self _, rfl⟩
    · refine owes_v (Go.Op.lookup 97 (Go.Operand.tmp 37) (Go.Operand.tmp 40) false) 3 [4, 7] (by kernel_rfl) (by kernel_rfl) (by kernel_rfl) rfl fun vals w1 ρ hG hF hρ hcst hfun => ?_
      have e37 : ρ (.tmp 37) = .map (some mb) := ((hρ 37).trans (slotJ [4, 7] (by rw [hsz]; decide) (by kernel_rfl))).trans (hF 4 (by decide))
      have e40 : ρ (.tmp 40) = .int .i64 z2 := ((hρ 40).trans (slotJ [4, 7] (by rw [hsz]; decide) (by kernel_rfl))).trans (hF 7 (by decide))
      have k := HLk.out w1 hG
      clear hρ hF hcst hfun sl2 sl8 sl10 fin
      exact opv_val (by go_simp <;> rfl) ⟨gw_self _, rfl⟩
    · refine owes_v (Go.Op.build 56 #[(0, Go.Operand.tmp 36), (1, Go.Operand.tmp 41)]) 56 [3, 8] (by kernel_rfl) (by kernel_rfl) (by kernel_rfl) rfl fun vals w1 ρ hG hF hρ hcst hfun => ?_
      have e36 : ρ (.tmp 36) = .string st := ((hρ 36).trans (slotJ [3, 8] (by rw [hsz]; decide) (by kernel_rfl))).trans (hF 3 (by decide))
      have e41 : ρ (.tmp 41) = .int .i64 nv := ((hρ 41).trans (slotJ [3, 8] (by rw [hsz]; decide) (by kernel_rfl))).trans (hF 8 (by decide))
      clear hρ hF hcst hfun sl2 sl8 sl10 fin
      exact opv_val (by go_simp <;> rfl) ⟨gw_self _, rfl⟩
  · intro vals w1 hG hF
    exact next_spine2 (by kernel_rfl) (by kernel_rfl) (by kernel_rfl) (by kernel_rfl) (by kernel_rfl) (by kernel_rfl) (fin vals w1 hG (hF 9 (by decide +kernel)))
def RootP (w : World) (r : Rv) (e : Ending) (w' : World) : Prop := e = .returned (.tuple #[r.v, .int .i64 0]) ∧ Below w.heap.size w w'
theorem readRoot_c (w : World) (B g mb : Nat) (v : Value) (ws : List (BitVec 64)) (h : MemAt w B g v ws) (h8 : ws.length ≤ 8192) (l : List Nat) (hm : MapIs w (some mb) (numM l)) (i a : Nat) (ha : a = 2 + 5 * i) (hi : a + 4 < ws.length) :
    Calls Try.prog 77 #[.pointer (some ⟨g, 0, none⟩), .int .i64 (a : Int), .map (some mb)] w (RootP w (dRoot ws l i)) := by
  obtain ⟨k, hk⟩ : ∃ k, k = bytesM ws (8 * a) 32 := ⟨_, rfl⟩
  have hkw : nW k := by rw [hk]; unfold nW bytesM; simp
  have HBy := Lib.hid (fun W (m : MemAt W B g v ws) => bytes_k (xs := k) (a := 8 * a) (n := 32) hk.symm (by omega) (by omega) m)
  obtain ⟨st, hst⟩ : ∃ st, st = strB (cutN k) := ⟨_, rfl⟩
  have HST := Lib.hid (fun W => string_c W k hkw)
  unfold nV at HST
  rw [← hst] at HST
  obtain ⟨x, hx⟩ : ∃ x, x = ws[a + 4] := ⟨_, rfl⟩
  have hxe : ws.getD (2 + 5 * i + 4) 0#64 = x := by rw [← ha, hx, List.getD_eq_getElem?_getD, List.getElem?_eq_getElem hi]; rfl
  obtain ⟨a4, ha4⟩ : ∃ a4, a4 = a + 4 := ⟨_, rfl⟩
  have HGt := Lib.hid (fun W (m : MemAt W B g v ws) => show Calls Try.prog 101 #[.pointer (some ⟨g, 0, none⟩), .int .i64 (a4 : Int)] W (fun e w' => e = .returned (.tuple #[.int .u64 (U64 x), .int .i64 0]) ∧ w' = W) from by
    have h1 := get_in W B g v ws (a + 4) hi (by omega) m
    rw [← hx, ← ha4] at h1
    exact h1)
  obtain ⟨z1, hz1⟩ : ∃ z, IntKind.i64.wrap (U64 x) = z := ⟨_, rfl⟩
  obtain ⟨z2, hz2⟩ : ∃ z, IntKind.i64.wrap (z1 - 1) = z := ⟨_, rfl⟩
  have hri : rtI x = z2 := by unfold rtI; rw [hz1, hz2]
  obtain ⟨nv, hnv⟩ : ∃ nv, nv = numV l z2 := ⟨_, rfl⟩
  have hwf : (Lit.int .i64 z2).wf = true := by
    rw [← hz2]
    simp [Lit.wf, IntKind.min, IntKind.max, IntKind.wrap, IntKind.signed, IntKind.bits]
    omega
  have HLk := Lib.hid (fun W (q : MapIs W (some mb) (numM l)) => show (Instr.lookup 97 (.map (some mb)) (.int .i64 z2) false).run Try.prog W = .ok (.int .i64 nv) W from by
    rw [hnv]
    exact q.look hwf)
  have hd : dRoot ws l i = ⟨st, nv⟩ := by
    unfold dRoot
    rw [hxe, hri, ← hnv, ← ha, ← hk, ← hst]
  rw [hd]
  obtain ⟨xu, hxu⟩ : ∃ xu, xu = U64 x := ⟨_, rfl⟩
  rw [← hxu] at HGt hz1
  obtain ⟨a8, ha8⟩ : ∃ a8, a8 = 8 * a := ⟨_, rfl⟩
  rw [← ha8] at HBy
  have q1 : (a : Int) * 8 = (a8 : Int) := by omega
  have q2 : (a8 : Int) ≤ 65536 := by omega
  have q3 : (a : Int) + 4 = (a4 : Int) := by omega
  have q4 : (a4 : Int) ≤ 8192 := by omega
  have q5 : (0 : Int) ≤ (a : Int) := by omega
  have HZ := Lib.hid (And.intro hz1 (And.intro hz2 hkw))
  have HM := Lib.hid (And.intro h hm)
  have hkl : k.length = 32 := hkw
  have HKl := Lib.hid hkl
  clear h h8 hm ha hi hk hkw hst hx hxe ha4 hz1 hz2 hri hnv hwf hd hxu ha8 hkl
  go_enter Try.func77, Try.ntmps77
  go_wp2_with fail
  obtain ⟨Rb, hRb⟩ : ∃ R, R = w.heap.size := ⟨_, rfl⟩
  obtain ⟨w1, hw1⟩ : ∃ W, W = w.alloc (.cells #[.string ⟨#[]⟩, .int .i64 0] 56) := ⟨_, rfl⟩
  have hbk : Bk w1 Rb 56 #[.string ⟨#[]⟩, .int .i64 0] := by rw [hw1, hRb]; exact Bk.new w _ _
  have b1 : Below w.heap.size w w1 := by rw [hw1]; exact Gw.alloc w _
  rw [← hw1, ← hRb]
  have HFr := Lib.hid (Nat.le_of_eq hRb.symm)
  have H1 := Lib.hid (And.intro hbk b1)
  clear hw1 hRb hbk b1
  refine Calls.mono (HBy.out w1 (HM.out.1.below H1.out.2)) ?_
  rintro r w2 ⟨u, rfl, b2, A, c, rfl, hrd⟩
  obtain ⟨ad, rfl⟩ : ∃ ad, A = some ad := by
    obtain ⟨ad, had, _, _⟩ := hrd 0 (by rw [HKl.out]; decide)
    exact ⟨ad, had⟩
  rw [HKl.out]
  have H2 := Lib.hid (And.intro (H1.out.1.below b2 H1.out.1.lt) (And.intro (H1.out.2.trans (b2.mono H1.out.2.size)) hrd))
  clear b2 hrd H1 HBy
  go_wp2_with fail
  refine Calls.mono (HGt.out w2 (HM.out.1.below H2.out.2.1)) ?_
  rintro r w3 ⟨rfl, rfl⟩
  go_wp2_with fail
  refine irr7 _ _ _ ad c mb k st xu z1 z2 nv H2.out.2.2 HZ.out.2.2 HZ.out.1 HZ.out.2.1 HST (Lib.hid (fun W b => HLk.out W (HM.out.2.kept (Kept.of_below (H2.out.2.1.trans (b.mono H2.out.2.1.size)) (fun _ => False)) (fun _ _ f => f)))) rfl ?_ ?_ ?_ ?_
  · rfl
  · rfl
  · rfl
  intro vals w4 hG h42
  unfold IsV at h42
  simp only [putD, Act.put, List.setIfInBounds_toArray, List.set_cons_zero, List.set_cons_succ, h42]
  have H4 := Lib.hid (And.intro (H2.out.1.below hG H2.out.1.lt) (H2.out.2.1.trans (hG.mono H2.out.2.1.size)))
  clear hG h42 H2
  obtain ⟨q0, q1'⟩ := H4.out.1.two
  have hRl := H4.out.1.lt
  have hfr0 := H4.out.1.free 0
  have hfr1 := H4.out.1.free 1
  go_wp2_with fail
  obtain ⟨W, hW⟩ : ∃ W, W = ((w4.setCell ⟨Rb, 0, none⟩ (.string st)).setCell ⟨Rb, 1, none⟩ (.int .i64 nv)) := ⟨_, rfl⟩
  have kR : Bk W Rb 56 #[.string st, .int .i64 nv] := by rw [hW]; exact two_set H4.out.1
  have kB : Below w.heap.size w W := by rw [hW]; exact two_below H4.out.2 HFr.out
  have hl := run_loadVar_row (P := Try.prog) W Rb 56 56 #[.string st, .int .i64 nv] (0, 0) _ kR Try.underlying56 rfl (by kernel_rfl)
  rw [← hW]
  clear hW q0 q1' hRl hfr0 hfr1
  refine ⟨rfl, trivial, ?_⟩
  go_wp2_with fail
  refine bodyPost_ret (res2 (p := 6) (u := 7) (by kernel_rfl) hl rfl rfl) rfl ?_
  exact ⟨rfl, kB⟩
end Go.Proofs.Ytkkjnahjmomjgaa
/- A row of one place. No conditions. -/
namespace Go.Proofs.Ytkkjnahjmomjgaa
set_option linter.unusedVariables false
set_option linter.unusedSimpArgs false
open Go.RowKit
end Go.Proofs.Ytkkjnahjmomjgaa
/- image.readNodes. Conditions: a space's objects. -/
namespace Go.Proofs.Ytkkjnahjmomjgaa
set_option linter.unusedVariables false
set_option linter.unusedSimpArgs false
open Go.RowKit Go.Maps
set_option maxHeartbeats 8000000
set_option maxRecDepth 100000
theorem node_info : ∃ i, Try.prog.info? 54 = some i ∧ i.zero = some (.agg #[.slice none 0 0, .slice none 0 0]) ∧ i.size = 2 ∧ i.bytes = 48 := by
  have h : (Try.prog.info? 54).map (fun i => (i.zero, i.size, i.bytes)) = some (some (.agg #[.slice none 0 0, .slice none 0 0]), 2, 48) := by kernel_rfl
  obtain ⟨i, h1, h2, h3, h4⟩ := info_parts h
  exact ⟨i, h1, h2, h3, h4⟩
theorem root_info : ∃ i, Try.prog.info? 56 = some i ∧ i.zero = some (.agg #[.string ⟨#[]⟩, .int .i64 0]) ∧ i.size = 2 ∧ i.bytes = 24 := by
  have h : (Try.prog.info? 56).map (fun i => (i.zero, i.size, i.bytes)) = some (some (.agg #[.string ⟨#[]⟩, .int .i64 0]), 2, 24) := by kernel_rfl
  obtain ⟨i, h1, h2, h3, h4⟩ := info_parts h
  exact ⟨i, h1, h2, h3, h4⟩
section
variable {ops : Array Oper} {rest : List Oper} {o : Oper} {a : Act} {W : World} {Q : Exit → Act → World → Prop}
/-- append(nodes, x), x's rows being made behind W0. -/
theorem wp_appNv (hgd : o.guard = none) (s y : Operand) (ho : o.op = .call { callee := .builtin .append, args := #[s, y], argTypes := #[22, 22] })
    (W0 : World) (base : Nat) (v : Value) (xs : List Nv) (x : Nv) (hs : a.eval s = v) (h : NOwn W0 base v xs) (hb : Below W0.heap.size W0 W) (hx : Ow iV 3 W base x.vp x.ps ∧ Ow b8 5 W base x.vd x.bs)
    (hf : (∀ k, x.vp.ownBlock = some k → W0.heap.size ≤ k) ∧ (∀ k, x.vd.ownBlock = some k → W0.heap.size ≤ k) ∧ (∀ k, x.vp.ownBlock = some k → x.vd.ownBlock ≠ some k))
    (q c : Nat) (hy : a.eval y = .slice (some ⟨q, 0, none⟩) 1 c) (c0 : W.cell? ⟨q, 0, none⟩ = some x.vp) (c1 : W.cell? ⟨q, 1, none⟩ = some x.vd) (hl : xs.length ≤ 100000) (hbase : base ≤ W0.heap.size)
    (hk : ∀ v' w', NOwn w' base v' (xs ++ [x]) → Below base W w' → wpList Try.prog ops Q rest (a.put o.dst v') w') : wpList Try.prog ops Q (o :: rest) a W := by
  obtain ⟨i0, hi, hz0, hz1, hz2⟩ := node_info
  have hbW : base ≤ W.heap.size := Nat.le_trans hbase hb.size
  have hrow : W.ownsRow base 54 2 v xs.length (xs.flatMap Nv.cs) := ownsRow_below h.row hb
  refine wp_appR 2 i0 Try.underlying22 hi hz0 hz1 hz2 (by rfl) (by decide) hgd s y ho base v xs.length (xs.flatMap Nv.cs) hs hrow ⟨q, 0, none⟩ 1 c x.cs hy rfl (fun j u hu => ?_) (fun u hu => ?_) (by unfold maxLen; omega) (by omega) hbW ?_
  · match j with
    | 0 =>
      have e : u = x.vp := by simpa [Nv.cs] using hu.symm
      rw [e, addr_at]
      exact c0
    | 1 =>
      have e : u = x.vd := by simpa [Nv.cs] using hu.symm
      rw [e, addr_at]
      exact c1
    | j + 2 => simp [Nv.cs] at hu
  · unfold Nv.cs at hu
    rcases List.mem_cons.1 hu with rfl | hu
    · rfl
    · rcases List.mem_cons.1 hu with rfl | hu
      · rfl
      · cases hu
  · intro v' w' ho' hb' hg' hv'
    exact hk v' w' (h.snoc hb hx hf ho' hg' hv') hb'
/-- append(roots, r). -/
theorem wp_appRv (hgd : o.guard = none) (s y : Operand) (ho : o.op = .call { callee := .builtin .append, args := #[s, y], argTypes := #[23, 23] })
    (base : Nat) (v : Value) (xs : List Rv) (x : Rv) (hs : a.eval s = v) (h : ROwn W base v xs)
    (q c : Nat) (hy : a.eval y = .slice (some ⟨q, 0, none⟩) 1 c) (c0 : W.cell? ⟨q, 0, none⟩ = some (.string x.s)) (c1 : W.cell? ⟨q, 1, none⟩ = some (.int .i64 x.t)) (hl : xs.length ≤ 100000) (hbW : base ≤ W.heap.size)
    (hk : ∀ v' w', ROwn w' base v' (xs ++ [x]) → Below base W w' → W.grownBy w' v.ownBlock → wpList Try.prog ops Q rest (a.put o.dst v') w') : wpList Try.prog ops Q (o :: rest) a W := by
  obtain ⟨i0, hi, hz0, hz1, hz2⟩ := root_info
  refine wp_appR 2 i0 Try.underlying23 hi hz0 hz1 hz2 (by rfl) (by decide) hgd s y ho base v xs.length (xs.flatMap Rv.cs) hs h ⟨q, 0, none⟩ 1 c x.cs hy rfl (fun j u hu => ?_) (fun u hu => ?_) (by unfold maxLen; omega) (by omega) hbW ?_
  · match j with
    | 0 =>
      have e : u = .string x.s := by simpa [Rv.cs] using hu.symm
      rw [e, addr_at]
      exact c0
    | 1 =>
      have e : u = .int .i64 x.t := by simpa [Rv.cs] using hu.symm
      rw [e, addr_at]
      exact c1
    | j + 2 => simp [Rv.cs] at hu
  · unfold Rv.cs at hu
    rcases List.mem_cons.1 hu with rfl | hu
    · rfl
    · rcases List.mem_cons.1 hu with rfl | hu
      · rfl
      · cases hu
  · intro v' w' ho' hb' hg' hv'
    exact hk v' w' (by unfold ROwn; rw [List.length_append, List.flatMap_append]; simpa using ho') hb' hg'
theorem wp_ins_is {b : Nat} {l : List (Int × Int)} (hg : o.guard = none) (m x v : Operand) (hop : o.op = Op.insert 97 m x v)
    (hm : a.eval m = .map (some b)) (h : MapIs W (some b) l) (k z : Int) (hx : a.eval x = .int .i64 k) (hv : a.eval v = .int .i64 z) (hk : (Lit.int .i64 k).wf = true) (hz : (Lit.int .i64 z).wf = true) (hl : l.length ≤ 1000000)
    (hK : ∀ w', MapIs w' (some b) (putI l k z) → Kept (fun c => some b = some c) W w' → wpList Try.prog ops Q rest (a.put o.dst undef) w') : wpList Try.prog ops Q (o :: rest) a W := by
  refine wpList_plain hg fun K' hK' => ?_
  obtain ⟨w', hrun, r1, r2⟩ := h.put hk hz hl
  unfold Oper.wp
  simp [execOp, hop, hm, hx, hv, hrun, Result.andThen]
  exact hK' _ _ (hK w' r1 r2)
end
theorem objF_rise (ws : List (BitVec 64)) (t : Nat) : ∀ (n a : Nat) (l : List Nat), objF ws t n a = some l → l.Pairwise (· < ·)
  | 0, a, l, h => by
    have h : some [] = some l := h
    injection h with h
    subst h
    exact List.Pairwise.nil
  | n + 1, a, l, h => by
    have e : objF ws t (n + 1) a = if a < t then (if goodX (ws.getD a 0#64) (t - a) = true then (objF ws t n (a + szX (ws.getD a 0#64))).map (a :: ·) else none) else some [] := rfl
    rw [e] at h
    by_cases h1 : a < t
    · rw [if_pos h1] at h
      by_cases h2 : goodX (ws.getD a 0#64) (t - a) = true
      · rw [if_pos h2] at h
        cases hr : objF ws t n (a + szX (ws.getD a 0#64)) with
        | none => rw [hr] at h; cases h
        | some r =>
          rw [hr] at h
          injection h with h
          subst h
          obtain ⟨_, _, _, hs, _, _⟩ := head_of h2
          refine List.pairwise_cons.2 ⟨fun y hy => ?_, objF_rise ws t n _ r hr⟩
          have := (objF_mem n _ r hr y hy).1
          omega
      · rw [if_neg h2] at h; cases h
    · rw [if_neg h1] at h
      injection h with h
      subst h
      exact List.Pairwise.nil
/-- What readNodes answers of objects that are well. -/
def NodesP (w : World) (ws : List (BitVec 64)) (l : List Nat) (r : Ending) (w' : World) : Prop :=
  ∃ (nv : Value) (mb : Nat) (xs : List Nv), r = .returned (.tuple #[nv, .map (some mb), .int .i64 0]) ∧ NOwn w' w.heap.size nv xs ∧ xs.map normN = l.map (dNode ws l) ∧ MapIs w' (some mb) (numM l) ∧ Below w.heap.size w w'
theorem readNodes_bad (w : World) (B s g : Nat) (v : Value) (ws : List (BitVec 64)) (b t e : Nat) (sp : SpAt w B s g v ws b t e) (h8 : ws.length ≤ 8192) (hbad : ¬ wellE ws b t = 0) :
    Calls Try.prog 76 #[.pointer (some ⟨s, 0, none⟩)] w (RetP (.tuple #[.slice none 0 0, .map none, .int .i64 (wellE ws b t)]) w) := by
  have HW := Lib.hid (well_c w B s g v ws b t e sp h8)
  obtain ⟨er, her⟩ : ∃ er, er = wellE ws b t := ⟨_, rfl⟩
  rw [← her] at HW hbad ⊢
  clear sp h8 her
  go_enter Try.func76, Try.ntmps76
  go_wp2_with fail
  refine Calls.mono HW.out ?_
  rintro r w1 ⟨rfl, b1⟩
  have H1 := Lib.hid b1
  have e1 : (er != 0) = true := by simpa using hbad
  clear b1 hbad
  go_wp2_with fail
  refine bodyPost_ret (v := .tuple #[.slice none 0 0, .map none, .int .i64 er]) (by kernel_rfl) rfl ⟨rfl, H1.out⟩
end Go.Proofs.Ytkkjnahjmomjgaa
/- image.readNodes of objects that are well. Conditions: a space's objects. -/
namespace Go.Proofs.Ytkkjnahjmomjgaa
set_option linter.unusedVariables false
set_option linter.unusedSimpArgs false
open Go.RowKit Go.Maps
set_option maxHeartbeats 8000000
set_option maxRecDepth 100000
theorem two_new (w : World) (E F : TypeId) (a b : Value) : ((w.alloc (.cells #[a, b] E)).alloc (.cells #[a, b] F)).cell? ⟨w.heap.size + 1, 0, none⟩ = some a ∧ ((w.alloc (.cells #[a, b] E)).alloc (.cells #[a, b] F)).cell? ⟨w.heap.size + 1, 1, none⟩ = some b := by
  have h := Bk.new (w.alloc (.cells #[a, b] E)) F #[a, b]
  have e : (w.alloc (.cells #[a, b] E)).heap.size = w.heap.size + 1 := by unfold World.alloc; simp
  rw [e] at h
  exact ⟨h.cell 0, h.cell 1⟩
theorem nown_form {W : World} {base : Nat} {v : Value} {xs : List Nv} (h : NOwn W base v xs) : ∃ A c, v = .slice A xs.length c := own_form h.row
theorem readNodes_c (w : World) (B s g : Nat) (v : Value) (ws : List (BitVec 64)) (b t e : Nat) (sp : SpAt w B s g v ws b t e) (h8 : ws.length ≤ 8192) (l : List Nat) (ho : objF ws t (t + 1) b = some l) (hwl : l.all (wellN ws l) = true) :
    Calls Try.prog 76 #[.pointer (some ⟨s, 0, none⟩)] w (NodesP w ws l) := by
  have hw := well_c w B s g v ws b t e sp h8
  rw [well_some ho, if_pos hwl] at hw
  have HW := Lib.hid hw
  have hob := fun W (q : SpAt W B s g v ws b t e) => objects_c W B s g v ws b t e q (by omega)
  rw [ho] at hob
  have HOb := Lib.hid (fun W (q : SpAt W B s g v ws b t e) => show Calls Try.prog 97 #[.pointer (some ⟨s, 0, none⟩)] W (MkEP iN 3 l 0 W) from hob W q)
  have hmem := objF_mem (t + 1) b l ho
  have hrise := objF_rise ws t (t + 1) b l ho
  have hlen : l.length ≤ 8193 := by
    have h1 := objF_len (t + 1) b l ho
    have h2 := sp.te
    have h3 := sp.el
    omega
  obtain ⟨E, hE⟩ : ∃ E, E = NodesP w ws l := ⟨_, rfl⟩
  rw [← hE]
  have HE := Lib.hid hE
  obtain ⟨N, hN⟩ : ∃ N, N = l.length := ⟨_, rfl⟩
  have NI : (N : Int) ≤ 8193 := by omega
  have HX := Lib.hid (And.intro hN (And.intro hmem (And.intro hrise (And.intro hlen (And.intro h8 (List.all_eq_true.1 hwl))))))
  have HSp := Lib.hid sp
  have hmm := @run_makeMap Try.prog
  clear hw hob hmem hrise hlen hN h8 hwl sp ho hE
  go_enter Try.func76, Try.ntmps76
  go_wp2_with fail
  refine Calls.mono HW.out ?_
  rintro r w1 ⟨rfl, b1⟩
  have H1 := Lib.hid b1
  clear b1 HW
  go_wp2_with fail
  refine Calls.mono (HOb.out w1 (HSp.out.below H1.out)) ?_
  rintro r w2 ⟨A, c, rfl, hc, ho2, b2⟩
  rw [← HX.out.1] at ho2 ⊢
  have H2 := Lib.hid (show Ow iN 3 w2 w1.heap.size (.slice A N c) l ∧ Below w.heap.size w w2 from ⟨ho2, H1.out.trans (b2.mono H1.out.size)⟩)
  clear hc ho2 b2 HOb H1
  have HM0 := Lib.hid (show MapIs (w2.alloc (.map #[] 0)) (some w2.heap.size) [] from tighten (l := []) (World.ownsMap_made w2 Try.prog 3 (plainElem Try.prog 3)))
  go_wp2_with (refine wp_ins_is rfl _ _ _ rfl rfl HM0.out (-1) 0 rfl rfl (by decide) (by decide) (by simp) ?_; intro w4 hm4 hk4; have H4 := Lib.hid (show MapIs w4 (some w2.heap.size) (numM []) ∧ Below w2.heap.size w2 w4 from ⟨hm4, (Gw.alloc w2 (.map #[] 0)).trans (hk4.below (by simp) (fun j hj => by injection hj with hj; omega))⟩); clear hm4 hk4)
  obtain ⟨mb, hmb⟩ : ∃ mb, mb = w2.heap.size := ⟨_, rfl⟩
  have HS0 : Hid (MapIs w4 (some mb) (numM (l.take 0)) ∧ Below w2.heap.size w2 w4) := Lib.hid (by rw [hmb]; exact H4.out)
  rw [← hmb]
  have HMb := Lib.hid (Nat.le_of_eq hmb.symm)
  clear hmb H4 HM0 hmm
  go_loopw [33] (fun x W => ∃ k : Nat, x = .int .i64 k ∧ k ≤ N ∧ Hid (MapIs W (some mb) (numM (l.take k)) ∧ Below w2.heap.size w2 W)) (fun x _ => N - (Go.RowKit.intOf x).toNat)
  case atStart => exact ⟨0, rfl, Nat.zero_le _, HS0⟩
  case round =>
    obtain ⟨k, rfl, hk, hS⟩ := hrel
    clear HS0
    have p0 : (0 : Int) ≤ (k : Int) := by omega
    by_cases hlt : k < N
    · have p1 : (k : Int) < (N : Int) := by omega
      have hkl : k < l.length := by rw [← HX.out.1]; exact hlt
      have hrow : Ow iN 3 wr w1.heap.size (.slice A l.length c) l := by rw [← HX.out.1]; exact H2.out.1.below hS.out.2
      obtain ⟨ad, rfl, hlt2, hc⟩ := hrow.rd k hkl
      obtain ⟨a, ha⟩ : ∃ a, a = l[k] := ⟨_, rfl⟩
      rw [← ha] at hc
      unfold iN at hc
      obtain ⟨m1, m2, m3⟩ := HX.out.2.1 a (by rw [ha]; exact List.getElem_mem hkl)
      have htk : l.take (k + 1) = l.take k ++ [a] := by rw [ha]; exact List.take_succ_eq_append_getElem hkl
      have hstep : putI (numM (l.take k)) (a : Int) ((k + 1 : Nat) : Int) = numM (l.take (k + 1)) := by
        have h1 := numM_step (l.take k) a (fun y hy => by
          have h2 := HX.out.2.2.1
          rw [← List.take_append_drop (k + 1) l, htk] at h2
          exact (List.pairwise_append.1 (List.pairwise_append.1 h2).1).2.2 y hy a (by simp))
        rw [List.length_take, Nat.min_eq_left (by omega), ← htk] at h1
        exact h1
      have a8 : a ≤ 8192 := by
        have h1 := HSp.out.te
        have h2 := HSp.out.el
        have h3 := HX.out.2.2.2.2.1
        omega
      have HA := Lib.hid (show (Lit.int .i64 (a : Int)).wf = true ∧ (Lit.int .i64 ((k : Int) + 1)).wf = true ∧ (numM (l.take k)).length ≤ 1000000 from by
        refine ⟨by simp [Lit.wf, IntKind.min, IntKind.max, IntKind.signed, IntKind.bits]; omega, by simp [Lit.wf, IntKind.min, IntKind.max, IntKind.signed, IntKind.bits]; omega, ?_⟩
        unfold numM
        rw [List.length_cons, numsL_len, List.length_take]
        have := HX.out.2.2.2.1
        omega)
      have HX2 := Lib.hid hstep
      have H0 := hS
      clear hkl hrow ha m1 m2 m3 htk hstep a8 hS hk
      go_wp2_with (refine wp_put_is rfl _ _ _ rfl rfl H0.out.1 (a : Int) ((k : Int) + 1) rfl rfl HA.out.1 HA.out.2.1 HA.out.2.2 ?_; intro w6 hm6 hk6; have H6 := Lib.hid (show MapIs w6 (some mb) (numM (l.take (k + 1))) ∧ Below w2.heap.size w2 w6 from ⟨by rw [← HX2.out]; exact hm6, H0.out.2.trans (hk6.below H0.out.2.size (fun j hj => by injection hj with hj; have := HMb.out; omega))⟩); clear hm6 hk6)
      go_roundw
      case rel => exact ⟨k + 1, by go_num, by omega, H6⟩
      case measure => simp [Go.RowKit.intOf]; omega
    · have p1 : ¬ (k : Int) < (N : Int) := by omega
      have hkl : l.take k = l := List.take_of_length_le (by have := HX.out.1; omega)
      obtain ⟨wS, hwS⟩ : ∃ x, x = wr := ⟨_, rfl⟩
      subst hwS
      have h0 := hS.out
      rw [hkl] at h0
      have HSS := Lib.hid (show MapIs wS (some mb) (numM l) ∧ Below w2.heap.size w2 wS ∧ Below w.heap.size w wS ∧ Ow iN 3 wS w1.heap.size (.slice A N c) l from ⟨h0.1, h0.2, H2.out.2.trans (h0.2.mono H2.out.2.size), H2.out.1.below h0.2⟩)
      clear hkl hS h0 hk hlt
      go_wp2_with fail
      clear p1 p0
      go_loopw [11, 45] (fun o x W => ∃ k : Nat, x = .int .i64 k ∧ k ≤ N ∧ Hid (∃ xs, NOwn W wS.heap.size o xs ∧ xs.map normN = (l.take k).map (dNode ws l) ∧ Below wS.heap.size wS W)) (fun _ x _ => N - (Go.RowKit.intOf x).toNat)
      case atStart => exact ⟨0, rfl, Nat.zero_le _, Lib.hid ⟨[], NOwn.nil _ _, rfl, Below.refl _ _⟩⟩
      case round =>
        obtain ⟨k, rfl, hk, hS⟩ := hrel
        have p0 : (0 : Int) ≤ (k : Int) := by omega
        obtain ⟨xs, e1, e2, e3⟩ := hS.out
        by_cases hlt : k < N
        · have p1 : (k : Int) < (N : Int) := by omega
          have hkl : k < l.length := by rw [← HX.out.1]; exact hlt
          have hrow : Ow iN 3 wr w1.heap.size (.slice A l.length c) l := by rw [← HX.out.1]; exact HSS.out.2.2.2.below e3
          obtain ⟨ad, rfl, hlt2, hc⟩ := hrow.rd k hkl
          obtain ⟨a, ha⟩ : ∃ a, a = l[k] := ⟨_, rfl⟩
          rw [← ha] at hc
          unfold iN at hc
          have hal : a ∈ l := by rw [ha]; exact List.getElem_mem hkl
          obtain ⟨m1, m2, m3⟩ := HX.out.2.1 a hal
          have htk : l.take (k + 1) = l.take k ++ [a] := by rw [ha]; exact List.take_succ_eq_append_getElem hkl
          have hsp : SpAt wr B s g v ws b t e := (HSp.out.below HSS.out.2.2.1).below (e3.mono (Nat.le_refl _))
          have hmp : MapIs wr (some mb) (numM l) := HSS.out.1.kept (Kept.of_below e3 (fun _ => False)) (fun _ _ f => f)
          have HRn := Lib.hid (readNode_c wr B s g mb v ws b t e hsp HX.out.2.2.2.2.1 l hmp (fun y hy => ⟨(HX.out.2.1 y hy).1, (HX.out.2.1 y hy).2.1⟩) a m1 m2 m3 (HX.out.2.2.2.2.2 a hal))
          have hxl : xs.length ≤ 100000 := by
            have h1 := congrArg List.length e2
            rw [List.length_map, List.length_map, List.length_take] at h1
            have := HX.out.2.2.2.1
            omega
          have H0 := Lib.hid (And.intro e1 (And.intro e2 (And.intro e3 (And.intro hxl htk))))
          obtain ⟨oA, oc, eo⟩ := nown_form e1
          obtain ⟨on, hon⟩ : ∃ n, n = xs.length := ⟨_, rfl⟩
          rw [← hon] at eo
          subst eo
          clear hkl hrow ha hal m1 m2 m3 htk hsp hmp hxl e1 e2 e3 hS hon hk
          go_wp2_with fail
          refine Calls.mono HRn.out ?_
          rintro r w6 ⟨x, rfl, hx1, hx2, hx3, hx4, b6⟩
          obtain ⟨xA, xc, xD, xd, xps, xbs⟩ := x
          have HXx := Lib.hid (And.intro hx1 (And.intro hx2 (And.intro hx3 (And.intro hx4 b6))))
          unfold Nv.v Nv.vp Nv.vd at *
          simp only at *
          obtain ⟨nx, hnx⟩ : ∃ z, z = xps.length := ⟨_, rfl⟩
          obtain ⟨mx, hmx⟩ : ∃ z, z = xbs.length := ⟨_, rfl⟩
          rw [← hnx, ← hmx]
          have HV := Lib.hid (show ((w6.alloc (.cells #[.slice xA nx xc, .slice xD mx xd] 54)).alloc (.cells #[.slice xA nx xc, .slice xD mx xd] 54)).cell? ⟨w6.heap.size + 1, 0, none⟩ = some (Nv.mk xA xc xD xd xps xbs).vp ∧ ((w6.alloc (.cells #[.slice xA nx xc, .slice xD mx xd] 54)).alloc (.cells #[.slice xA nx xc, .slice xD mx xd] 54)).cell? ⟨w6.heap.size + 1, 1, none⟩ = some (Nv.mk xA xc xD xd xps xbs).vd ∧ Below wr.heap.size wr ((w6.alloc (.cells #[.slice xA nx xc, .slice xD mx xd] 54)).alloc (.cells #[.slice xA nx xc, .slice xD mx xd] 54)) from by
            unfold Nv.vp Nv.vd
            simp only
            rw [← hnx, ← hmx]
            refine ⟨(two_new w6 _ _ _ _).1, (two_new w6 _ _ _ _).2, ?_⟩
            exact (HXx.out.2.2.2.2.trans ((Gw.alloc w6 _).mono HXx.out.2.2.2.2.size)).trans ((Gw.alloc _ _).mono (Nat.le_trans HXx.out.2.2.2.2.size (Gw.alloc w6 _).size)))
          have HOx := Lib.hid (show Ow iV 3 ((w6.alloc (.cells #[.slice xA nx xc, .slice xD mx xd] 54)).alloc (.cells #[.slice xA nx xc, .slice xD mx xd] 54)) wS.heap.size (Nv.mk xA xc xD xd xps xbs).vp xps ∧ Ow b8 5 ((w6.alloc (.cells #[.slice xA nx xc, .slice xD mx xd] 54)).alloc (.cells #[.slice xA nx xc, .slice xD mx xd] 54)) wS.heap.size (Nv.mk xA xc xD xd xps xbs).vd xbs from
            ⟨((HXx.out.2.1.alloc _).alloc _).mono H0.out.2.2.1.size, ((HXx.out.2.2.1.alloc _).alloc _).mono H0.out.2.2.1.size⟩)
          have HF := Lib.hid (show (∀ j, (Nv.mk xA xc xD xd xps xbs).vp.ownBlock = some j → wr.heap.size ≤ j) ∧ (∀ j, (Nv.mk xA xc xD xd xps xbs).vd.ownBlock = some j → wr.heap.size ≤ j) ∧ (∀ j, (Nv.mk xA xc xD xd xps xbs).vp.ownBlock = some j → (Nv.mk xA xc xD xd xps xbs).vd.ownBlock ≠ some j) from
            ⟨fun j hj => (HXx.out.2.1.lt j hj).1, fun j hj => (HXx.out.2.2.1.lt j hj).1, HXx.out.2.2.2.1⟩)
          clear hx1 hx2 hx3 hx4 b6 hnx hmx HRn hc
          go_wp2_with (at_builtin; refine wp_appNv rfl (.tmp 59) (.tmp 61) rfl wr wS.heap.size _ xs (Nv.mk xA xc xD xd xps xbs) rfl H0.out.1 HV.out.2.2 HOx.out HF.out (w6.heap.size + 1) 1 rfl HV.out.1 HV.out.2.1 H0.out.2.2.2.1 H0.out.2.2.1.size ?_; intro v7 w7 ho7 hb7; obtain ⟨A7, c7, e7⟩ := nown_form ho7; obtain ⟨n7, hn7⟩ : ∃ n, n = (xs ++ [Nv.mk xA xc xD xd xps xbs]).length := ⟨_, rfl⟩; rw [← hn7] at e7; subst e7; clear hn7; have H7 := Lib.hid (And.intro ho7 ((H0.out.2.2.1.trans (HV.out.2.2.mono H0.out.2.2.1.size)).trans hb7)); clear ho7 hb7)
          go_roundw
          case rel => exact ⟨k + 1, by go_num, by omega, Lib.hid ⟨_, H7.out.1, by rw [H0.out.2.2.2.2, List.map_append, List.map_append, H0.out.2.1, List.map_cons, List.map_cons, HXx.out.1]; rfl, H7.out.2⟩⟩
          case measure => simp [Go.RowKit.intOf]; omega
        · have p1 : ¬ (k : Int) < (N : Int) := by omega
          have hkl : l.take k = l := List.take_of_length_le (by have := HX.out.1; omega)
          rw [hkl] at e2
          obtain ⟨oA, oc, eo⟩ := nown_form e1
          obtain ⟨on, hon⟩ : ∃ n, n = xs.length := ⟨_, rfl⟩
          rw [← hon] at eo
          subst eo
          have HF := Lib.hid (show NodesP w ws l (.returned (.tuple #[.slice oA on oc, .map (some mb), .int .i64 0])) wr from
            ⟨_, mb, xs, rfl, e1.mono HSS.out.2.2.1.size, e2, HSS.out.1.kept (Kept.of_below e3 (fun _ => False)) (fun _ _ f => f), HSS.out.2.2.1.trans (e3.mono HSS.out.2.2.1.size)⟩)
          clear e1 e2 e3 hS hk hkl hon
          go_wp2_with fail
          first
            | (rw [HE.out]; exact HF.out)
            | (refine bodyPost_ret (v := .tuple #[.slice oA on oc, .map (some mb), .int .i64 0]) (by kernel_rfl) rfl ?_; rw [HE.out]; exact HF.out)
end Go.Proofs.Ytkkjnahjmomjgaa
/- image.putNodes: the walk. Conditions: a graph that Check lets, room for it. -/
namespace Go.Proofs.Ytkkjnahjmomjgaa
set_option linter.unusedVariables false
set_option linter.unusedSimpArgs false
open Go.RowKit Go.Maps
set_option maxHeartbeats 8000000
set_option maxRecDepth 100000
def PutP (w : World) (B s g : Nat) (v : Value) (ns : List Nv) (b need : Nat) (r : Ending) (w' : World) : Prop :=
  ∃ pv, r = .returned (.tuple #[pv, .int .i64 0]) ∧ PuAt w' B s g v (List.replicate b 0#64 ++ ns.flatMap (nodeW (placeL ns b))) b need need w.heap.size pv (plI ns b) ∧ Below B w w'
theorem ow_iV_some {w : World} {B : Nat} {v : Value} {x : Int} {l : List Int} (h : Ow iV 3 w B v (x :: l)) : ∃ q c, v = .slice (some ⟨q, 0, none⟩) (l.length + 1) c ∧ B ≤ q := by
  rcases h.2 with ⟨e, hn⟩ | ⟨g, cap, cur, e, hb, hh, hc, _⟩
  · cases hn
  · exact ⟨g, cap, e, hb⟩
/-- What places[p] is, and what SetPtr makes of it. -/
theorem set_place (ns : List Nv) (b : Nat) (p : Int) (h : okP ns.length p = true) : ∃ z : Int, (0 ≤ p ∧ p ≤ (ns.length : Int)) ∧ ∃ (h2 : p.toNat < (plI ns b).length), (plI ns b)[p.toNat] = z ∧
    ∀ (w : World) (B s g : Nat) (v : Value) (ws : List (BitVec 64)) (t e : Nat) (_ : SpAt w B s g v ws b t e) (_ : ws.length ≤ 100000) (a k : Nat) (_ : b ≤ a) (_ : a < t) (_ : goodX (ws.getD a 0#64) (t - a) = true) (_ : k < P0 (ws.getD a 0#64)) (_ : endL ns b ≤ t),
      Calls Try.prog 61 #[.pointer (some ⟨s, 0, none⟩), .int .i64 a, .int .i64 k, .int .i64 z] w (SetP w B s g v (ws.set (a + 1 + k) (pointW (placeL ns b) p)) b t e) := by
  by_cases h0 : p = 0
  · subst h0
    refine ⟨-1, by omega, by rw [plI_len]; show 0 < _; omega, rfl, fun w B s g v ws t e q hl a k h1 h2 h3 h4 _ => ?_⟩
    exact setptr_nil w B s g v ws b t e q hl a k h1 h2 h3 h4
  · have hh : 1 ≤ p ∧ p ≤ (ns.length : Int) := by
      unfold okP hasG at h
      simpa [h0] using h
    have hk : p.toNat - 1 < ns.length := by omega
    have e := plI_at ns b (p.toNat - 1) hk
    rw [show p.toNat - 1 + 1 = p.toNat from by omega] at e
    obtain ⟨hl, he⟩ := List.getElem?_eq_some_iff.1 e
    refine ⟨_, ⟨by omega, hh.2⟩, hl, he, fun w B s g v ws t e q hl a k h1 h2 h3 h4 h5 => ?_⟩
    have hpl := placeL_at ns b (p.toNat - 1) hk
    have hm : endL (ns.take (p.toNat - 1)) b ∈ placeL ns b := by
      rw [← hpl, List.getD_eq_getElem?_getD, List.getElem?_eq_getElem (by rw [placeL_len]; exact hk)]
      exact List.getElem_mem _
    have hlt := placeL_lt ns b _ hm
    have h := setptr_to w B s g v ws b t e q hl a k (endL (ns.take (p.toNat - 1)) b) h1 h2 h3 h4 hlt.1 (by omega)
    have ew : pointW (placeL ns b) p = BitVec.ofNat 64 (endL (ns.take (p.toNat - 1)) b + 1) := by
      unfold pointW
      rw [if_neg h0, hpl]
    rw [ew]
    exact h
theorem putNodes_c (w : World) (B s g : Nat) (v : Value) (ns : List Nv) (b need ca : Nat) (A : Option Addr) (sp : SpAt w B s g v (List.replicate need 0#64) b b need) (hneed : need = endL ns b) (h8 : need ≤ 8192) (hA : NRow w B A ns) (hx : ∀ x ∈ ns, (∀ p ∈ x.ps, okP ns.length p = true) ∧ x.ps.length ≤ 64 ∧ x.bs.length ≤ 1024) :
    Calls Try.prog 26 #[.pointer (some ⟨s, 0, none⟩), .slice A ns.length ca] w (PutP w B s g v ns b need) := by
  obtain ⟨E, hE⟩ : ∃ E, E = PutP w B s g v ns b need := ⟨_, rfl⟩
  rw [← hE]
  have HE := Lib.hid hE
  obtain ⟨N, hN⟩ : ∃ N, N = ns.length := ⟨_, rfl⟩
  have hN8 : N ≤ 8192 := by have := endL_len ns b; omega
  have NI : (N : Int) ≤ 8192 := by omega
  obtain ⟨S, hS⟩ : ∃ S, S = w.heap.size := ⟨_, rfl⟩
  have hss : s < S ∧ g < S ∧ (∀ k, v.ownBlock = some k → k < S) := by
    rw [hS]
    exact ⟨sp.blk.lt, sp.mem.blk.lt, fun k hk => (sp.mem.row.lt k hk).2⟩
  have hp0 : PuAt (w.alloc (.cells #[.int .i64 (-1)] 3)) B s g v (madeW ns b need 0) b (endL (ns.take 0) b) need S (.slice (some ⟨w.heap.size, 0, none⟩) 1 1) (plI (ns.take 0) b) := by
    refine ⟨?_, ?_, hss.1, hss.2.1, hss.2.2, ?_⟩
    · have e : madeW ns b need 0 = List.replicate need 0#64 := by
        unfold madeW
        rw [List.take_zero]
        show (List.replicate b 0#64 ++ []) ++ List.replicate (need - b) 0#64 = _
        rw [List.append_nil, List.replicate_append_replicate, show b + (need - b) = need from by have := sp.te; omega]
      rw [e]
      exact sp.below (Gw.alloc w _)
    · rw [hS]; exact ow_iV1 w (-1)
    · rw [hS]; exact (Gw.alloc w _).size
  have HG := Lib.hid (And.intro hneed (And.intro h8 (And.intro hA (And.intro hx (And.intro hN (And.intro hS hss))))))
  have HP0 := Lib.hid (show ∃ pv, PuAt (w.alloc (.cells #[.int .i64 (-1)] 3)) B s g v (madeW ns b need 0) b (endL (ns.take 0) b) need S pv (plI (ns.take 0) b) ∧ Below B w (w.alloc (.cells #[.int .i64 (-1)] 3)) ∧ pv = .slice (some ⟨w.heap.size, 0, none⟩) 1 1 from ⟨_, hp0, (Gw.alloc w _).mono sp.mem.le, rfl⟩)
  rw [← hN]
  clear sp hneed hA hx hE hN hss hp0 h8 hN8 hS
  go_enter Try.func26, Try.ntmps26
  go_wp2_with fail
  go_loopw [6, 21] (fun o x W => ∃ k : Nat, x = .int .i64 k ∧ k ≤ N ∧ Hid (PuAt W B s g v (madeW ns b need k) b (endL (ns.take k) b) need S o (plI (ns.take k) b) ∧ Below B w W)) (fun _ x _ => N - (Go.RowKit.intOf x).toNat)
  case atStart =>
    obtain ⟨pv, h1, h2, rfl⟩ := HP0.out
    exact ⟨0, rfl, Nat.zero_le _, Lib.hid ⟨h1, h2⟩⟩
  case round =>
    obtain ⟨k, rfl, hk, hS⟩ := hrel
    clear HP0
    have p0 : (0 : Int) ≤ (k : Int) := by omega
    by_cases hlt : k < N
    · have p1 : (k : Int) < (N : Int) := by omega
      have hkl : k < ns.length := by rw [← HG.out.2.2.2.2.1]; exact hlt
      obtain ⟨x, hx⟩ : ∃ x, x = ns[k] := ⟨_, rfl⟩
      obtain ⟨x1, x2, x3⟩ := HG.out.2.2.2.1 x (by rw [hx]; exact List.getElem_mem hkl)
      obtain ⟨ad, rfl, hadl, hc2, hc3⟩ : ∃ ad, A = some ad ∧ ad.block < B ∧ wr.cell? (ad.add (k * 2)) = some x.vp ∧ wr.cell? ⟨(ad.add (k * 2)).block, (ad.add (k * 2)).off + 1, none⟩ = some x.vd := by
        obtain ⟨ad, e, h0, h1, h2, h3⟩ := (HG.out.2.2.1.below hS.out.2) k hkl
        exact ⟨ad, e, h0, by rw [hx]; exact h1, by rw [hx]; exact h2⟩
      obtain ⟨a, ha⟩ : ∃ a, a = endL (ns.take k) b := ⟨_, rfl⟩
      obtain ⟨sz, hsz⟩ : ∃ sz, sz = szG x := ⟨_, rfl⟩
      have htk : ns.take (k + 1) = ns.take k ++ [x] := by rw [hx]; exact List.take_succ_eq_append_getElem hkl
      have he : endL (ns.take (k + 1)) b = a + sz := by rw [htk, endL_snoc, ← ha, hsz]
      have hle : a + sz ≤ need := by rw [← he, HG.out.1]; exact endL_take_le ns (k + 1) b
      have hs1 : 1 ≤ sz := by rw [hsz]; unfold szG; omega
      have hst : allocW (madeW ns b need k) a sz (headW x) = madeW ns b need (k + 1) := by rw [ha, hsz, hx]; exact made_step ns b need k hkl HG.out.1
      have hrt : rightH (x.ps.length : Int) (x.bs.length : Int) false 0 = true := by unfold rightH; simp; omega
      have hsh : sizeH (x.ps.length : Int) (x.bs.length : Int) false 0 = (sz : Int) := by
        rw [hsz]
        unfold sizeH szG
        rw [if_pos ⟨hrt, rfl⟩]
        omega
      have hml := made_len ns b need k HG.out.1
      have HAl := Lib.hid (fun W (q : SpAt W B s g v (madeW ns b need k) b a need) => alloc_ok3 W B s g v (madeW ns b need k) b a need q (by have := HG.out.2.1; omega) (x.ps.length : Int) (x.bs.length : Int) 0 sz hrt hsh hs1 (by omega))
      rw [show packH (x.ps.length : Int) (x.bs.length : Int) false 0 = headW x from rfl, hst] at HAl
      obtain ⟨nx, hnx⟩ : ∃ z, z = x.ps.length := ⟨_, rfl⟩
      obtain ⟨mx, hmx⟩ : ∃ z, z = x.bs.length := ⟨_, rfl⟩
      obtain ⟨xA, xc, xD, xd, xps, xbs⟩ := x
      unfold Nv.vp at hc2
      unfold Nv.vd at hc3
      simp only at hc2 hc3 hnx hmx HAl
      rw [← hnx] at hc2 HAl
      rw [← hmx] at hc3 HAl
      rw [← ha] at hS
      obtain ⟨e1, e2⟩ := hS.out
      have hpl : plI (ns.take (k + 1)) b = plI (ns.take k) b ++ [(a : Int)] := by rw [htk, plI_snoc, ← ha]
      have hll : (plI (ns.take k) b).length + [(a : Int)].length ≤ 4294967296 := by rw [plI_len, List.length_take]; simp; omega
      have HX := Lib.hid (And.intro he (And.intro hpl (And.intro hk hll)))
      have H0 := Lib.hid hS.out
      have a8 : (a : Int) ≤ 8192 := by have := HG.out.2.1; omega
      clear hx hS ha hsz htk he hle hs1 hst hrt hsh hml hnx hmx e1 e2 hpl hll hkl x1 x2 x3 hk
      go_wp2_with fail
      refine Calls.mono (HAl.out _ (H0.out.1.sp.below (Gw.alloc wr _))) ?_
      rintro r w5 ⟨rfl, q5, b5, t5⟩
      have H5 := Lib.hid (show PuAt w5 B s g v (madeW ns b need (k + 1)) b (a + sz) need S _ (plI (ns.take k) b) ∧ Below B w w5 from ⟨(H0.out.1.below (Gw.alloc wr _)).two q5 t5, (H0.out.2.trans ((Gw.alloc wr _).mono H0.out.1.sp.mem.le)).trans b5⟩)
      clear q5 b5 t5 hc2 hc3 HAl H0
      go_wp2_with (at_builtin; refine wp_app oneI iV_one rfl (.tmp 40) (.tmp 42) rfl S _ (plI (ns.take k) b) rfl (H5.out.1.row.alloc _) (some ⟨w5.heap.size, 0, none⟩) 1 1 [(a : Int)] rfl rfl (w5.heap.size + 1) (rd1_new rfl) HX.out.2.2.2 (by decide) (Nat.le_trans H5.out.1.sz (Gw.alloc w5 _).size) ?_; intro v6 w6 ho6 hb6 hg6 hj6; have H6 := Lib.hid (And.intro ((H5.out.1.below (Gw.alloc w5 _)).app (HX.out.2.1 ▸ ho6) hg6) ((H5.out.2.trans ((Gw.alloc w5 _).mono H5.out.1.sp.mem.le)).trans (hb6.mono H5.out.1.low))); clear ho6 hb6 hg6 hj6)
      go_roundw
      case rel => exact ⟨k + 1, by go_num, by omega, Lib.hid (by rw [HX.out.1]; exact H6.out)⟩
      case measure => simp [Go.RowKit.intOf]; omega
    · have p1 : ¬ (k : Int) < (N : Int) := by omega
      have hkN : k = ns.length := by have := HG.out.2.2.2.2.1; omega
      obtain ⟨e1, e2⟩ := hS.out
      rw [hkN, made_all ns b need (placeL ns b) HG.out.1, List.take_length, ← HG.out.1] at e1
      obtain ⟨q, cq, eo, hqS⟩ := ow_iV_some (x := -1) (l := (placeL ns b).map (fun a : Nat => (a : Int))) e1.row
      rw [List.length_map, placeL_len, ← HG.out.2.2.2.2.1] at eo
      subst eo
      have HS0 : Hid (PuAt wr B s g v (doneW (placeL ns b) ns b 0) b need need S (.slice (some ⟨q, 0, none⟩) (N + 1) cq) (plI ns b) ∧ Below B w wr) := Lib.hid ⟨e1, e2⟩
      clear e1 e2 hS hk hkN p1 p0
      go_wp2_with fail
      go_loopw [47] (fun x W => ∃ k : Nat, x = .int .i64 k ∧ k ≤ N ∧ Hid (PuAt W B s g v (doneW (placeL ns b) ns b k) b need need S (.slice (some ⟨q, 0, none⟩) (N + 1) cq) (plI ns b) ∧ Below B w W)) (fun x _ => N - (Go.RowKit.intOf x).toNat)
      case atStart => exact ⟨0, rfl, Nat.zero_le _, HS0⟩
      case round =>
        obtain ⟨k, rfl, hk, hS⟩ := hrel
        clear HS0
        have p0 : (0 : Int) ≤ (k : Int) := by omega
        by_cases hlt : k < N
        · have p1 : (k : Int) < (N : Int) := by omega
          have hkl : k < ns.length := by rw [← HG.out.2.2.2.2.1]; exact hlt
          obtain ⟨x, hx⟩ : ∃ x, x = ns[k] := ⟨_, rfl⟩
          obtain ⟨x1, x2, x3⟩ := HG.out.2.2.2.1 x (by rw [hx]; exact List.getElem_mem hkl)
          obtain ⟨ad, rfl, hadl, hc2, hc3, hxa⟩ : ∃ ad, A = some ad ∧ ad.block < B ∧ wr.cell? (ad.add (k * 2)) = some x.vp ∧ wr.cell? ⟨(ad.add (k * 2)).block, (ad.add (k * 2)).off + 1, none⟩ = some x.vd ∧ x.At w B := by
            obtain ⟨ad, e, h0, h1, h2, h3⟩ := (HG.out.2.2.1.below hS.out.2) k hkl
            obtain ⟨_, _, _, _, _, h3'⟩ := HG.out.2.2.1 k hkl
            exact ⟨ad, e, h0, by rw [hx]; exact h1, by rw [hx]; exact h2, by rw [hx]; exact h3'⟩
          obtain ⟨e1, e2⟩ := hS.out
          obtain ⟨a, ha⟩ : ∃ a, a = endL (ns.take k) b := ⟨_, rfl⟩
          have hap := plI_at ns b k hkl
          rw [← ha] at hap
          obtain ⟨hpl, hpe⟩ := List.getElem?_eq_some_iff.1 hap
          have hpc := e1.row.cell hpl
          have hql : q < wr.heap.size := e1.row.ge.2
          rw [hpe] at hpc
          unfold iV at hpc
          have k1 : (k : Int) + 1 = ((k + 1 : Nat) : Int) := by omega
          obtain ⟨kk, hkk⟩ : ∃ kk, kk = k + 1 := ⟨_, rfl⟩
          rw [← hkk] at hpc k1
          have kI : (kk : Int) < ((N + 1 : Nat) : Int) := by omega
          obtain ⟨NN, hNN⟩ : ∃ NN, NN = N + 1 := ⟨_, rfl⟩
          rw [← hNN] at kI ⊢
          have hfacts := half_all_len (placeL ns b) ns b need k
          have HX := Lib.hid (And.intro hx (And.intro x1 (And.intro x2 (And.intro x3 (And.intro hxa (And.intro ha (And.intro hkl (And.intro hkk hNN))))))))
          have H0 := Lib.hid (show PuAt wr B s g v ((List.replicate b 0#64 ++ (ns.take k).flatMap (nodeW (placeL ns b))) ++ halfW (placeL ns b) x 0 ++ (ns.drop (k + 1)).flatMap blankW) b need need S (.slice (some ⟨q, 0, none⟩) NN cq) (plI ns b) ∧ Below B w wr from ⟨by rw [hx, ← done_split _ _ _ _ hkl, hNN]; exact e1, e2⟩)
          obtain ⟨nx, hnx⟩ : ∃ z, z = x.ps.length := ⟨_, rfl⟩
          obtain ⟨mx, hmx⟩ : ∃ z, z = x.bs.length := ⟨_, rfl⟩
          have HY := Lib.hid (And.intro hnx hmx)
          have nI : (nx : Int) ≤ 64 := by omega
          have a8 : (a : Int) ≤ 8192 := by
            have h1 := endL_take_le ns k b
            rw [← ha, ← HG.out.1] at h1
            have := HG.out.2.1
            omega
          unfold Nv.vp at hc2
          unfold Nv.vd at hc3
          rw [← hnx] at hc2
          rw [← hmx] at hc3
          obtain ⟨xA, hxA⟩ : ∃ z, z = x.A := ⟨_, rfl⟩
          obtain ⟨xc, hxc⟩ : ∃ z, z = x.c := ⟨_, rfl⟩
          obtain ⟨xD, hxD⟩ : ∃ z, z = x.D := ⟨_, rfl⟩
          obtain ⟨xd, hxd⟩ : ∃ z, z = x.d := ⟨_, rfl⟩
          rw [← hxA, ← hxc] at hc2
          rw [← hxD, ← hxd] at hc3
          have HZ := Lib.hid (And.intro hxA hxD)
          clear hx x1 x2 x3 hxa e1 e2 ha hap hpl hpe hS hnx hmx hfacts hxA hxc hxD hxd hk hkk hNN
          go_wp2_with fail
          obtain ⟨Nb, hNb⟩ : ∃ Nb, Nb = wr.heap.size := ⟨_, rfl⟩
          obtain ⟨w5, hw5⟩ : ∃ w5, w5 = wr.alloc (.cells #[.slice xA nx xc, .slice xD mx xd] 54) := ⟨_, rfl⟩
          have hbk : Bk w5 Nb 54 #[.slice xA nx xc, .slice xD mx xd] := by rw [hw5, hNb]; exact Bk.new wr _ _
          have b05 : Below wr.heap.size wr w5 := by rw [hw5]; exact Gw.alloc wr _
          rw [← hw5, ← hNb]
          have HS5 : Hid (PuAt w5 B s g v ((List.replicate b 0#64 ++ (ns.take k).flatMap (nodeW (placeL ns b))) ++ halfW (placeL ns b) x 0 ++ (ns.drop (k + 1)).flatMap blankW) b need need S (.slice (some ⟨q, 0, none⟩) NN cq) (plI ns b) ∧ Below B w w5 ∧ Bk w5 Nb 54 #[.slice xA nx xc, .slice xD mx xd]) := Lib.hid ⟨H0.out.1.below b05, H0.out.2.trans (b05.mono H0.out.1.sp.mem.le), hbk⟩
          have HNb := Lib.hid (show S ≤ Nb from by rw [hNb]; exact H0.out.1.sz)
          clear hw5 hNb hbk b05 H0 hql hpc hc2 hc3 k1 kI
          obtain ⟨g0, g1⟩ := HS5.out.2.2.two
          have hNl := HS5.out.2.2.lt
          go_wp2_with fail
          clear g0 g1 hNl
          go_loopw [60] (fun x' W => ∃ j : Nat, x' = .int .i64 j ∧ j ≤ nx ∧ Hid (PuAt W B s g v ((List.replicate b 0#64 ++ (ns.take k).flatMap (nodeW (placeL ns b))) ++ halfW (placeL ns b) x j ++ (ns.drop (k + 1)).flatMap blankW) b need need S (.slice (some ⟨q, 0, none⟩) NN cq) (plI ns b) ∧ Below B w W ∧ Bk W Nb 54 #[.slice xA nx xc, .slice xD mx xd])) (fun x' _ => nx - (Go.RowKit.intOf x').toNat)
          case atStart => exact ⟨0, rfl, Nat.zero_le _, HS5⟩
          case round =>
            obtain ⟨j, rfl, hj, hS⟩ := hrel
            clear HS5
            have j0 : (0 : Int) ≤ (j : Int) := by omega
            obtain ⟨e1, e2, e3⟩ := hS.out
            by_cases hlj : j < nx
            · have j1 : (j : Int) < (nx : Int) := by omega
              have hjl : j < x.ps.length := by rw [← HY.out.1]; exact hlj
              obtain ⟨p, hp⟩ : ∃ p, p = x.ps[j] := ⟨_, rfl⟩
              obtain ⟨aq, haq, hpc⟩ : ∃ aq, xA = some aq ∧ wr.cell? (aq.add j) = some (.int .i64 p) := by
                obtain ⟨aq, e, _, h1⟩ := (HX.out.2.2.2.2.1.p.below e2) j hjl
                exact ⟨aq, HZ.out.1.trans e, by rw [hp]; exact h1⟩
              subst haq
              have hokp := HX.out.2.1 p (by rw [hp]; exact List.getElem_mem hjl)
              obtain ⟨z, hz1, hz2, hz3, hz4⟩ := set_place ns b p hokp
              have hzc := e1.row.cell hz2
              rw [hz3] at hzc
              unfold iV at hzc
              obtain ⟨pn, hpn⟩ : ∃ pn, pn = p.toNat := ⟨_, rfl⟩
              have pI : p = (pn : Int) := by omega
              rw [← hpn] at hzc
              have hhd := half_head (placeL ns b) ns b k j HX.out.2.2.2.2.2.2.1
              have hlen := half_all_len (placeL ns b) ns b need k j HX.out.2.2.2.2.2.2.1 (by rw [← HX.out.1]; omega) HG.out.1
              rw [← HX.out.1] at hhd hlen
              rw [← HX.out.2.2.2.2.2.1] at hhd
              obtain ⟨o1, o2, o3, o4⟩ := headW_ok HX.out.2.2.1 HX.out.2.2.2.1
              have hroom : szG x ≤ need - a ∧ b ≤ a ∧ a < need := by
                have h1 := endL_take_le ns (k + 1) b
                rw [List.take_succ_eq_append_getElem HX.out.2.2.2.2.2.2.1, endL_snoc, ← HX.out.1, ← HX.out.2.2.2.2.2.1, ← HG.out.1] at h1
                have h2 := endL_ge (ns.take k) b
                rw [← HX.out.2.2.2.2.2.1] at h2
                have h3 : 1 ≤ szG x := by unfold szG; omega
                omega
              have hst := half_step (placeL ns b) x j hjl (List.replicate b 0#64 ++ (ns.take k).flatMap (nodeW (placeL ns b))) ((ns.drop (k + 1)).flatMap blankW)
              rw [done_pre, ← HX.out.2.2.2.2.2.1, ← hp] at hst
              have hset := hz4 wr B s g v _ need need e1.sp (by rw [hlen]; have := HG.out.2.1; omega) a j hroom.2.1 hroom.2.2 (by rw [hhd]; exact o1 _ hroom.1) (by rw [hhd, o3]; exact hjl) (Nat.le_of_eq HG.out.1.symm)
              rw [hst] at hset
              have HSt := Lib.hid hset
              have H1 := Lib.hid (And.intro e1 (And.intro e2 e3))
              subst pI
              have pN : (pn : Int) < (NN : Int) := by
                have h1 := hz1
                have := HX.out.2.2.2.2.2.2.2.2
                have := HG.out.2.2.2.2.1
                omega
              obtain ⟨g0, g1⟩ := e3.two
              have hNl := e3.lt
              clear hS e1 e2 e3 hjl hp hokp hz1 hz2 hz3 hz4 hpn hhd hlen o1 o2 o3 o4 hroom hst hset hj
              go_wp2_with fail
              refine Calls.mono HSt.out ?_
              rintro r w6 ⟨rfl, q6, t6, b6⟩
              have H6 := Lib.hid (And.intro (H1.out.1.two q6 t6) (And.intro (H1.out.2.1.trans b6) ((im_twokept t6).bk H1.out.2.2 (fun h => by
                have h1 := HNb.out
                have h2 := H1.out.1.ss
                rcases h with h | h
                · omega
                · have := H1.out.1.vs _ h.symm; omega))))
              clear q6 t6 b6 hzc hpc g0 g1 hNl H1 HSt
              go_wp2_with fail
              go_roundw
              case rel => exact ⟨j + 1, by go_num, by omega, H6⟩
              case measure => simp [Go.RowKit.intOf]; omega
            · have j1 : ¬ (j : Int) < (nx : Int) := by omega
              have hjn : j = x.ps.length := by have := HY.out.1; omega
              rw [hjn] at e1
              have hhd := half_head (placeL ns b) ns b k x.ps.length HX.out.2.2.2.2.2.2.1
              have hlen := half_all_len (placeL ns b) ns b need k x.ps.length HX.out.2.2.2.2.2.2.1 (by rw [← HX.out.1]; exact Nat.le_refl _) HG.out.1
              rw [← HX.out.1] at hhd hlen
              rw [← HX.out.2.2.2.2.2.1] at hhd
              obtain ⟨o1, o2, o3, o4⟩ := headW_ok HX.out.2.2.1 HX.out.2.2.2.1
              have hroom : szG x ≤ need - a ∧ b ≤ a ∧ a < need := by
                have h1 := endL_take_le ns (k + 1) b
                rw [List.take_succ_eq_append_getElem HX.out.2.2.2.2.2.2.1, endL_snoc, ← HX.out.1, ← HX.out.2.2.2.2.2.1, ← HG.out.1] at h1
                have h2 := endL_ge (ns.take k) b
                rw [← HX.out.2.2.2.2.2.1] at h2
                have h3 : 1 ≤ szG x := by unfold szG; omega
                omega
              have hda := half_data (placeL ns b) x (8 * (a + 1 + x.ps.length) + 0) (List.replicate b 0#64 ++ (ns.take k).flatMap (nodeW (placeL ns b))) ((ns.drop (k + 1)).flatMap blankW) (by rw [done_pre, ← HX.out.2.2.2.2.2.1, Nat.add_zero])
              have hnext := done_next (placeL ns b) ns b k HX.out.2.2.2.2.2.2.1
              rw [← HX.out.1] at hnext
              have hwr := fun (c : Nat) => write_ok wr B s g v _ b need need e1.sp (by rw [hlen]; have := HG.out.2.1; omega) a 0 x.D c x.bs hroom.2.1 hroom.2.2 (by rw [hhd]; exact o1 _ hroom.1) (by rw [hhd, o4]; omega) ((HX.out.2.2.2.2.1.b.below e2).more e1.sp.mem.le) (fun h0 y hy hv => by
                obtain ⟨y', hy', hlt, _⟩ := HX.out.2.2.2.2.1.b 0 h0
                rw [hy] at hy'
                injection hy' with hy'
                have h1 := (e1.sp.mem.row.lt _ hv.symm).1
                rw [hy'] at h1
                omega)
              simp only [hhd, o3, hda, hnext] at hwr
              simp only [← HY.out.2] at hwr
              simp only [← HZ.out.2] at hwr
              have HWr := Lib.hid (fun (c : Nat) => hwr c)
              have H1 := Lib.hid (And.intro e1 (And.intro e2 e3))
              obtain ⟨g0, g1⟩ := e3.two
              have hNl := e3.lt
              clear hS e1 e2 e3 hhd hlen o1 o2 o3 o4 hroom hda hnext hwr hj hjn
              go_wp2_with fail
              refine Calls.mono (HWr.out _) ?_
              rintro r w6 ⟨rfl, q6, t6, b6⟩
              have H6 := Lib.hid (And.intro (H1.out.1.two q6 t6) (H1.out.2.1.trans b6))
              clear q6 t6 b6 g0 g1 hNl H1 HWr
              go_wp2_with fail
              go_roundw
              case rel => exact ⟨k + 1, by go_num, by omega, H6⟩
              case measure => simp [Go.RowKit.intOf]; omega
        · have p1 : ¬ (k : Int) < (N : Int) := by omega
          have hkN : k = ns.length := by have := HG.out.2.2.2.2.1; omega
          obtain ⟨e1, e2⟩ := hS.out
          rw [hkN, done_all] at e1
          have HF := Lib.hid (show PutP w B s g v ns b need (.returned (.tuple #[.slice (some ⟨q, 0, none⟩) (N + 1) cq, .int .i64 0])) wr from ⟨_, rfl, by rw [← HG.out.2.2.2.2.2.1]; exact e1, e2⟩)
          clear e1 e2 hS hk hkN
          go_wp2_with fail
          rw [HE.out]
          exact HF.out
end Go.Proofs.Ytkkjnahjmomjgaa
/- 'append(row, make([]T, k)...)' on a row of the call's own: k zeros behind it. Conditions: lengths. -/
namespace Go.Proofs.Ytkkjnahjmomjgaa
set_option linter.unusedVariables false
set_option linter.unusedSimpArgs false
open Go.RowKit
end Go.Proofs.Ytkkjnahjmomjgaa
/- 'append([]byte(s), make([]byte, k)...)': on a row that a conversion has made. Conditions: lengths. -/
namespace Go.Proofs.Ytkkjnahjmomjgaa
set_option linter.unusedVariables false
set_option linter.unusedSimpArgs false
open Go.RowKit
set_option maxHeartbeats 1000000
/-- A row with zeros behind it. -/
def ZeroP (w : World) (base : Nat) (n : Nat) (cs : List Value) (v : Value) (w' : World) : Prop :=
  ∃ q c, v = .slice (some ⟨q, 0, none⟩) n c ∧ base ≤ q ∧ q < w'.heap.size ∧ (∀ (j : Nat) (u : Value), cs[j]? = some u → w'.cell? ⟨q, j, none⟩ = some u) ∧ Below base w w'
end Go.Proofs.Ytkkjnahjmomjgaa
/- loamref17.Encode: the region that makes a name's bytes. Conditions: the name's length. -/
namespace Go.Proofs.Ytkkjnahjmomjgaa
set_option linter.unusedVariables false
set_option linter.unusedSimpArgs false
open Go.RowKit
set_option maxHeartbeats 4000000
set_option maxRecDepth 100000
/-- A row that a conversion of a string has made. -/
def CvV (s : ByteArray) (B : Nat) (v : Value) (w : World) : Prop :=
  ∃ g cur, v = .slice (some ⟨g, 0, none⟩) s.size cur.size ∧ B ≤ g ∧ w.heap[g]? = some (.cells cur 5 (cur.size, cur.size + 1)) ∧ s.size ≤ cur.size ∧ cur.toList.take s.size = s.data.toList.map (fun b => Value.int .u8 b.toNat)
theorem CvV.mono {s : ByteArray} {B : Nat} {v : Value} {a b : World} (h : CvV s B v a) (hg : Below a.heap.size a b) : CvV s B v b := by
  obtain ⟨g, cur, e, hB, hh, h2⟩ := h
  exact ⟨g, cur, e, hB, (hg.block g (Array.getElem?_eq_some_iff.1 hh).1).trans hh, h2⟩
end Go.Proofs.Ytkkjnahjmomjgaa
