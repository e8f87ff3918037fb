/- Texts joined: CrcF OpenP AnyR CrB CrC ObL ObM ObN. -/
import Derived.Test.YtaminpfgkegibaaXc3
import Derived.Test.YtaminpfgkegibaaFrame
import Derived.Deep.Matrix
import Derived.Test.YtaminpfgkegibaaSpG
import Derived.Test.YtaminpfgkegibaaRegV
import Derived.Test.YtaminpfgkegibaaRegT
/- What Low, Seal, Right of loamref2 answer. Conditions: at most 2^30 bytes. -/
namespace Go.Proofs.Ytaminpfgkegibaa
set_option linter.unusedVariables false
set_option linter.unusedSimpArgs false
open Go.RowKit
set_option maxRecDepth 100000
set_option maxHeartbeats 400000
attribute [local go_sem] m8_0 sh8 sh16 sh24 u32_u8
def rightL (bs : List (BitVec 8)) : Bool := decide (4 ≤ bs.length) && tailL (addC 0#32 (bs.take (bs.length - 4))) == bs.drop (bs.length - 4)
end Go.Proofs.Ytaminpfgkegibaa
/- How an argument of type [][]byte is opened. No conditions. -/
namespace Go.Proofs.Ytaminpfgkegibaa
set_option linter.unusedVariables false
set_option linter.unusedSimpArgs false
open Go.ChangeShapes Go.WideShapes Go.ChangeAt Go.RowKit
end Go.Proofs.Ytaminpfgkegibaa
/- The last region of SumsAny. Conditions: lengths. -/
namespace Go.Proofs.Ytaminpfgkegibaa
set_option linter.unusedVariables false
set_option linter.unusedSimpArgs false
open Go.RowKit
theorem of_ret {P : Program} {f : FuncId} {args : Array Value} {v : Value} {w : World} (h : Calls P f args w (RetP v w)) : Calls P f args w fun e w2 => ∃ u, e = .returned u ∧ Below w.heap.size w w2 ∧ IsV v u w2 :=
  h.mono fun _ _ h => ⟨_, h.1, h.2, rfl⟩
set_option maxRecDepth 100000
set_option maxHeartbeats 400000
end Go.Proofs.Ytaminpfgkegibaa
/- check.looked.name: the name at a place. Conditions: lengths. -/
namespace Go.Proofs.Ytaminpfgkegibaa
set_option linter.unusedVariables false
set_option linter.unusedSimpArgs false
open Go.RowKit Go.Maps
set_option maxHeartbeats 2000000
set_option maxRecDepth 100000
/-- Is what a Root has for a name one? -/
def nmOk (k : Nm) : Bool := decide (goodN (cutN k) ∧ padNm (cutN k) = k)
theorem ldRd {w : World} {B : Nat} {a : Addr} {xs : Nm} (hr : Rd b8 w B (some a) xs) (hl : nW xs) : (loadVar 147 a).run Try.prog w = .ok (.agg (nC xs)) w := by
  have hc : (loadCells a (xs.map b8).length).run Try.prog w = .ok (xs.map b8).toArray w := run_loadCells_list w a (xs.map b8) (fun j v hv => by
    rw [List.getElem?_map] at hv
    cases hx : xs[j]? with
    | none => rw [hx] at hv; cases hv
    | some y =>
      rw [hx] at hv
      injection hv with hv
      obtain ⟨hj, e⟩ := List.getElem?_eq_some_iff.1 hx
      obtain ⟨ad, had, _, h⟩ := hr j hj
      injection had with had
      subst had
      rw [h, ← hv, e])
  rw [List.length_map, hl] at hc
  have hagg : (isAgg 147).run Try.prog w = .ok true w := by
    unfold isAgg
    rw [Sem.run_bind, run_underlying Try.underlying147 w]
    rfl
  have hsz : (sizeOf 147).run Try.prog w = .ok 32 w := by kernel_rfl
  unfold loadVar
  simp only [Sem.run_bind, hagg, Result.andThen_ok, if_true, hsz, hc, Sem.run_pure]
  rfl
theorem opv_ldNm {ρ : Operand → Value} {x : Operand} {w : World} {g : Nat} {E : TypeId} {cs : Array Value} {ty : TypeId} (hx : ρ x = .pointer (some ⟨g, 0, none⟩)) (hb : Bk w g E cs) (hs : cs.size = 32) :
    OpV Try.prog (.load 147 x) ty ρ w (fun v w2 => Below w.heap.size w w2 ∧ IsV (.agg cs) v w2) :=
  opv_val (by unfold execOp; simp [hx, Instr.loadAt, Instr.sureAddr, ldN hb hs]) ⟨gw_self _, rfl⟩
theorem arrN (A : Option Addr) (c : Nat) (W : World) : (Instr.arrayAt 147 (.slice A 32 c)).run Try.prog W = .ok (.pointer A) W := by
  unfold Instr.arrayAt
  rw [Sem.run_bind, run_underlying Try.underlying147 W]
  rfl
section
variable {ops : Array Oper} {rest : List Oper} {o : Oper} {a : Act} {w : World} {Q : Exit → Act → World → Prop}
theorem wp_loadRd {B : Nat} (hg : o.guard = none) (x : Operand) (ho : o.op = .load 147 x) (ad : Addr) (hx : a.eval x = .pointer (some ad)) (xs : Nm) (hr : Rd b8 w B (some ad) xs) (hl : nW xs)
    (h : wpList Try.prog ops Q rest (a.put o.dst (.agg (nC xs))) w) : wpList Try.prog ops Q (o :: rest) a w :=
  wpList_plain hg fun _ hK => by
    unfold Oper.wp execOp
    simp only [ho, hx, Instr.loadAt, Instr.sureAddr, Sem.run_bind, Sem.run_pure, Result.andThen_ok, ldRd hr hl]
    exact hK _ _ h
end
theorem nmA (Q : Exit → Act → World → Prop) (a0 : Act) (w : World) (q r : Nat) (arr ar2 : Array Value) (st : ByteArray) (y : Bool) (hs : arr.size = 32) (hs2 : ar2.size = 32) (hq : Bk w q 147 arr) (hr : Bk w r 147 ar2) (HST : Hid (∀ W, Calls Try.prog 81 #[.agg arr] W (RetP (.string st) W))) (HEQ : Hid (∀ W, (Op.equalIn 10000 147 (.agg ar2) (.agg arr)).run Try.prog W = .ok y W)) (hsz : a0.tmps.size = 43) (sl7 : a0.tmps.getD 7 undef = .int .i64 0) (sl8 : a0.tmps.getD 8 undef = .pointer (some ⟨q, 0, none⟩)) (sl9 : a0.tmps.getD 9 undef = .pointer (some ⟨r, 0, none⟩))
    (fin : ∀ (vals : Nat → Value) (w1 : World), Below w.heap.size w w1 → (IsV (.string st)) (vals 9) w1 → (IsV (.bool y)) (vals 10) w1 → Q .normal (putD vals [34, 35, 36, 37, 38, 39, 40, 41, 42, 4, 5] 0 a0) w1) :
    (Code.region 6 (regIn Try.f51 6) true).wp Try.prog Q a0 w := by
  refine region_by (G := fun w w1 => Below w.heap.size w w1) [IsV (.agg arr),
    IsV (.string st),
    IsV (.int .i64 0),
    IsV (.bool true),
    IsV (.bool true),
    IsV (.agg ar2),
    IsV (.agg arr),
    IsV (.bool y),
    IsV (.bool y),
    IsV (.string st),
    IsV (.bool y)]
    [34, 35, 36, 37, 38, 39, 40, 41, 42, 4, 5] (by kernel_rfl) (Gw.drew _) Gw.trans (by rw [hsz]; kernel_rfl) (by kernel_rfl) ?_ ?_ ?_
  · intro f hf
    simp only [List.mem_cons, List.not_mem_nil, or_false] at hf
    rcases hf with rfl | rfl | rfl | rfl | rfl | rfl | rfl | rfl | rfl | rfl | rfl <;> intro v a b h g <;> first | exact IsV.mono h
  · refine ⟨?_, ?_, ?_, ?_, ?_, ?_, ?_, ?_, ?_, ?_, ?_, trivial⟩
    · refine owes_v (Go.Op.load 147 (Go.Operand.tmp 8)) 147 [] (by kernel_rfl) (by kernel_rfl) (by kernel_rfl) rfl fun vals w1 ρ hG hF hρ hcst hfun => ?_
      have e8 : ρ (.tmp 8) = .pointer (some ⟨q, 0, none⟩) := ((hρ 8).trans (slotO [] (by kernel_rfl))).trans sl8
      clear hρ hF hcst hfun sl7 sl8 sl9 fin
      exact opv_ldNm e8 (hq.below hG hq.lt) hs
    · refine owes_v (Go.Op.call { callee := Go.Callee.value (Go.Operand.func 81), args := #[Go.Operand.tmp 34], argTypes := #[147] }) 9 [0] (by kernel_rfl) (by kernel_rfl) (by kernel_rfl) rfl fun vals w1 ρ hG hF hρ hcst hfun => ?_
      have e34 : ρ (.tmp 34) = .agg arr := ((hρ 34).trans (slotJ [0] (by rw [hsz]; decide) (by kernel_rfl))).trans (hF 0 (by decide))
      clear hρ hF hcst sl7 sl8 sl9 fin
      exact opv_enter (by go_simp <;> rfl) (of_ret (HST.out w1))
    · exact owes_mv 7 (by kernel_rfl) (by kernel_rfl) (by kernel_rfl) sl7 (fun _ => rfl)
    · refine owes_v (Go.Op.binOp Go.BinOp.eql 30 (Go.Operand.tmp 36) (Go.Operand.const (Go.Value.int Go.IntKind.i64 0)) 30) 4 [2] (by kernel_rfl) (by kernel_rfl) (by kernel_rfl) rfl fun vals w1 ρ hG hF hρ hcst hfun => ?_
      have e36 : ρ (.tmp 36) = .int .i64 0 := ((hρ 36).trans (slotJ [2] (by rw [hsz]; decide) (by kernel_rfl))).trans (hF 2 (by decide))
      clear hρ hF hfun sl7 sl8 sl9 fin
      exact opv_val (by go_simp <;> rfl) ⟨gw_self _, rfl⟩
    · exact owes_mvj 3 37 (by kernel_rfl) (by kernel_rfl) (by kernel_rfl) (by kernel_rfl) (by rw [hsz]; decide) (fun v w h => h)
    · refine owes_vt 4 true (Go.Op.load 147 (Go.Operand.tmp 9)) 147 [] (by kernel_rfl) (by kernel_rfl) (by kernel_rfl) (fun _ _ h => h) (by rw [hsz]; kernel_rfl) (by kernel_rfl) rfl fun vals w1 ρ hG hF hρ hcst hfun => ?_
      have e9 : ρ (.tmp 9) = .pointer (some ⟨r, 0, none⟩) := ((hρ 9).trans (slotO [] (by kernel_rfl))).trans sl9
      clear hρ hF hcst hfun sl7 sl8 sl9 fin
      exact opv_ldNm e9 (hr.below hG hr.lt) hs2
    · refine owes_vt 4 true (Go.Op.load 147 (Go.Operand.tmp 8)) 147 [] (by kernel_rfl) (by kernel_rfl) (by kernel_rfl) (fun _ _ h => h) (by rw [hsz]; kernel_rfl) (by kernel_rfl) rfl fun vals w1 ρ hG hF hρ hcst hfun => ?_
      have e8 : ρ (.tmp 8) = .pointer (some ⟨q, 0, none⟩) := ((hρ 8).trans (slotO [] (by kernel_rfl))).trans sl8
      clear hρ hF hcst hfun sl7 sl8 sl9 fin
      exact opv_ldNm e8 (hq.below hG hq.lt) hs
    · refine owes_vt 4 true (Go.Op.binOp Go.BinOp.eql 147 (Go.Operand.tmp 39) (Go.Operand.tmp 40) 147) 4 [5, 6] (by kernel_rfl) (by kernel_rfl) (by kernel_rfl) (fun _ _ h => h) (by rw [hsz]; kernel_rfl) (by kernel_rfl) rfl fun vals w1 ρ hG hF hρ hcst hfun => ?_
      have e39 : ρ (.tmp 39) = .agg ar2 := ((hρ 39).trans (slotJ [5, 6] (by rw [hsz]; decide) (by kernel_rfl))).trans (hF 5 (by decide))
      have e40 : ρ (.tmp 40) = .agg arr := ((hρ 40).trans (slotJ [5, 6] (by rw [hsz]; decide) (by kernel_rfl))).trans (hF 6 (by decide))
      have k := HEQ.out w1
      clear hρ hF hcst hfun sl7 sl8 sl9 fin
      exact opv_val (by go_simp <;> rfl) ⟨gw_self _, rfl⟩
    · refine owes_v (Go.Op.pick (Go.Operand.tmp 38) (Go.Operand.tmp 41) (Go.Operand.const (Go.Value.bool false))) 4 [4, 7] (by kernel_rfl) (by kernel_rfl) (by kernel_rfl) rfl fun vals w1 ρ hG hF hρ hcst hfun => ?_
      have e38 : ρ (.tmp 38) = .bool true := ((hρ 38).trans (slotJ [4, 7] (by rw [hsz]; decide) (by kernel_rfl))).trans (hF 4 (by decide))
      have e41 : ρ (.tmp 41) = .bool y := ((hρ 41).trans (slotJ [4, 7] (by rw [hsz]; decide) (by kernel_rfl))).trans (hF 7 (by decide))
      clear hρ hF hfun sl7 sl8 sl9 fin
      exact opv_val (by go_simp <;> rfl) ⟨gw_self _, rfl⟩
    · exact owes_mvj 1 35 (by kernel_rfl) (by kernel_rfl) (by kernel_rfl) (by kernel_rfl) (by rw [hsz]; decide) (fun v w h => h)
    · exact owes_mvj 8 42 (by kernel_rfl) (by kernel_rfl) (by kernel_rfl) (by kernel_rfl) (by rw [hsz]; decide) (fun v w h => h)
  · intro vals w1 hG hF
    exact fin vals w1 hG (hF 9 (by decide +kernel)) (hF 10 (by decide +kernel))
theorem nmB (Q : Exit → Act → World → Prop) (a0 : Act) (w : World) (q r : Nat) (er : Int) (arr : Array Value) (st : ByteArray) (her : ¬ er = 0) (hs : arr.size = 32) (hq : Bk w q 147 arr) (HST : Hid (∀ W, Calls Try.prog 81 #[.agg arr] W (RetP (.string st) W))) (hsz : a0.tmps.size = 43) (sl7 : a0.tmps.getD 7 undef = .int .i64 er) (sl8 : a0.tmps.getD 8 undef = .pointer (some ⟨q, 0, none⟩))
    (fin : ∀ (vals : Nat → Value) (w1 : World), Below w.heap.size w w1 → (IsV (.string st)) (vals 9) w1 → (IsV (.bool false)) (vals 10) w1 → Q .normal (putD vals [34, 35, 36, 37, 38, 39, 40, 41, 42, 4, 5] 0 a0) w1) :
    (Code.region 6 (regIn Try.f51 6) true).wp Try.prog Q a0 w := by
  refine region_by (G := fun w w1 => Below w.heap.size w w1) [IsV (.agg arr),
    IsV (.string st),
    IsV (.int .i64 er),
    IsV (.bool false),
    IsV (.bool false),
    IsV undef,
    IsV undef,
    IsV undef,
    IsV (.bool false),
    IsV (.string st),
    IsV (.bool false)]
    [34, 35, 36, 37, 38, 39, 40, 41, 42, 4, 5] (by kernel_rfl) (Gw.drew _) Gw.trans (by rw [hsz]; kernel_rfl) (by kernel_rfl) ?_ ?_ ?_
  · intro f hf
    simp only [List.mem_cons, List.not_mem_nil, or_false] at hf
    rcases hf with rfl | rfl | rfl | rfl | rfl | rfl | rfl | rfl | rfl | rfl | rfl <;> intro v a b h g <;> first | exact IsV.mono h
  · refine ⟨?_, ?_, ?_, ?_, ?_, ?_, ?_, ?_, ?_, ?_, ?_, trivial⟩
    · refine owes_v (Go.Op.load 147 (Go.Operand.tmp 8)) 147 [] (by kernel_rfl) (by kernel_rfl) (by kernel_rfl) rfl fun vals w1 ρ hG hF hρ hcst hfun => ?_
      have e8 : ρ (.tmp 8) = .pointer (some ⟨q, 0, none⟩) := ((hρ 8).trans (slotO [] (by kernel_rfl))).trans sl8
      clear hρ hF hcst hfun sl7 sl8 fin
      exact opv_ldNm e8 (hq.below hG hq.lt) hs
    · refine owes_v (Go.Op.call { callee := Go.Callee.value (Go.Operand.func 81), args := #[Go.Operand.tmp 34], argTypes := #[147] }) 9 [0] (by kernel_rfl) (by kernel_rfl) (by kernel_rfl) rfl fun vals w1 ρ hG hF hρ hcst hfun => ?_
      have e34 : ρ (.tmp 34) = .agg arr := ((hρ 34).trans (slotJ [0] (by rw [hsz]; decide) (by kernel_rfl))).trans (hF 0 (by decide))
      clear hρ hF hcst sl7 sl8 fin
      exact opv_enter (by go_simp <;> rfl) (of_ret (HST.out w1))
    · exact owes_mv 7 (by kernel_rfl) (by kernel_rfl) (by kernel_rfl) sl7 (fun _ => rfl)
    · refine owes_v (Go.Op.binOp Go.BinOp.eql 30 (Go.Operand.tmp 36) (Go.Operand.const (Go.Value.int Go.IntKind.i64 0)) 30) 4 [2] (by kernel_rfl) (by kernel_rfl) (by kernel_rfl) rfl fun vals w1 ρ hG hF hρ hcst hfun => ?_
      have e36 : ρ (.tmp 36) = .int .i64 er := ((hρ 36).trans (slotJ [2] (by rw [hsz]; decide) (by kernel_rfl))).trans (hF 2 (by decide))
      clear hρ hF hfun sl7 sl8 fin
      exact opv_val (by go_simp <;> rfl) ⟨gw_self _, rfl⟩
    · exact owes_mvj 3 37 (by kernel_rfl) (by kernel_rfl) (by kernel_rfl) (by kernel_rfl) (by rw [hsz]; decide) (fun v w h => h)
    · exact owes_no 4 false true (by decide) (by kernel_rfl) (by kernel_rfl) (fun _ _ h => h) (by rw [hsz]; kernel_rfl) (fun _ => rfl)
    · exact owes_no 4 false true (by decide) (by kernel_rfl) (by kernel_rfl) (fun _ _ h => h) (by rw [hsz]; kernel_rfl) (fun _ => rfl)
    · exact owes_no 4 false true (by decide) (by kernel_rfl) (by kernel_rfl) (fun _ _ h => h) (by rw [hsz]; kernel_rfl) (fun _ => rfl)
    · refine owes_v (Go.Op.pick (Go.Operand.tmp 38) (Go.Operand.tmp 41) (Go.Operand.const (Go.Value.bool false))) 4 [4, 7] (by kernel_rfl) (by kernel_rfl) (by kernel_rfl) rfl fun vals w1 ρ hG hF hρ hcst hfun => ?_
      have e38 : ρ (.tmp 38) = .bool false := ((hρ 38).trans (slotJ [4, 7] (by rw [hsz]; decide) (by kernel_rfl))).trans (hF 4 (by decide))
      have e41 : ρ (.tmp 41) = undef := ((hρ 41).trans (slotJ [4, 7] (by rw [hsz]; decide) (by kernel_rfl))).trans (hF 7 (by decide))
      clear hρ hF hfun sl7 sl8 fin
      exact opv_val (by go_simp <;> rfl) ⟨gw_self _, rfl⟩
    · exact owes_mvj 1 35 (by kernel_rfl) (by kernel_rfl) (by kernel_rfl) (by kernel_rfl) (by rw [hsz]; decide) (fun v w h => h)
    · exact owes_mvj 8 42 (by kernel_rfl) (by kernel_rfl) (by kernel_rfl) (by kernel_rfl) (by rw [hsz]; decide) (fun v w h => h)
  · intro vals w1 hG hF
    exact fin vals w1 hG (hF 9 (by decide +kernel)) (hF 10 (by decide +kernel))
end Go.Proofs.Ytaminpfgkegibaa
/- check.looked.name and roots. Conditions: lengths. -/
namespace Go.Proofs.Ytaminpfgkegibaa
set_option linter.unusedVariables false
set_option linter.unusedSimpArgs false
open Go.RowKit Go.Maps
set_option maxHeartbeats 4000000
set_option maxRecDepth 100000
def nameS : ByteArray := ⟨#[110, 97, 109, 101]⟩
def rootS : ByteArray := ⟨#[114, 111, 111, 116]⟩
def leadB (ws : List (BitVec 64)) (p : List Nat) (j : Nat) : Bool := decide ((ws.getD j 0#64).toNat = 0 ∨ (1 ≤ (ws.getD j 0#64).toNat ∧ (ws.getD j 0#64).toNat - 1 ∈ p))
def lessS (a b : ByteArray) : Bool := Op.bytesLess a.toList b.toList || a.toList == b.toList
def nmAt (ws : List (BitVec 64)) (i : Nat) : Nm := bytesM ws (8 * (2 + 5 * i)) 32
def nmS (ws : List (BitVec 64)) (i : Nat) : ByteArray := strB (cutN (nmAt ws i))
/-- What is wrong of a Root, the last name that may be one being given. -/
def rootE (ws : List (BitVec 64)) (p : List Nat) (i : Nat) (ab : ByteArray) : List (Nat × ByteArray) := (if nmOk (nmAt ws i) = true ∧ lessS (nmS ws i) ab = false then [] else [(2 + 5 * i, nameS)]) ++ (if leadB ws p (2 + 5 * i + 4) = true then [] else [(2 + 5 * i + 4, rootS)])
def rootF (ws : List (BitVec 64)) (p : List Nat) : Nat → Nat → ByteArray → List (Nat × ByteArray)
  | 0, _, _ => []
  | n + 1, i, ab => rootE ws p i ab ++ rootF ws p n (i + 1) (if nmOk (nmAt ws i) = true then nmS ws i else ab)
theorem cut_len32 (k : Nm) (hk : nW k) : (cutN k).length ≤ 32 := by
  have := cut_len k
  have : k.length = 32 := hk
  omega
section
variable {wB : World} {B Bs Xb s g mb : Nat} {v rv lv : Value} {ws : List (BitVec 64)} {b t e : Nat} {p : List Nat} {fs : List (Nat × ByteArray)}
theorem nmAt_w (ws : List (BitVec 64)) (i : Nat) : nW (nmAt ws i) := by unfold nmAt nW bytesM; simp
theorem name_c (w : World) (hS : SpAt w Bs s g v ws b t e) (h : LkAt w B Xb s mb rv lv ws p fs) (hw : ws.length ≤ 8192) (i a : Nat) (ha : a = 2 + 5 * i) (hi : a + 4 ≤ ws.length) :
    Calls Try.prog 51 #[.pointer (some ⟨Xb, 0, none⟩), .int .i64 (a : Int)] w (RetP (.tuple #[.string (nmS ws i), .bool (nmOk (nmAt ws i))]) w) := by
  obtain ⟨c0, c1, c2, c3⟩ := h.four
  have hX := h.blk.lt
  obtain ⟨d0, d1, d2, d3⟩ := hS.four
  have hsl := hS.blk.lt
  obtain ⟨k, hk⟩ : ∃ k, k = nmAt ws i := ⟨_, rfl⟩
  have hkw : nW k := by rw [hk]; exact nmAt_w ws i
  have HBy := Lib.hid (bytes_k (xs := k) (a := 8 * a) (n := 32) (by rw [hk, ha]; rfl) (by omega) (by omega) hS.mem)
  have hst : nmS ws i = strB (cutN k) := by unfold nmS; rw [hk]
  obtain ⟨st, hs0⟩ : ∃ st, st = strB (cutN k) := ⟨_, rfl⟩
  rw [hst, ← hk, ← hs0]
  have HST := Lib.hid (fun W => string_c W k hkw)
  have hcl := cut_len32 k hkw
  have q1 : (a : Int) * 8 = ((8 * a : Nat) : Int) := by omega
  obtain ⟨a8, ha8⟩ : ∃ a8, a8 = 8 * a := ⟨_, rfl⟩
  have hkl : k.length = 32 := hkw
  rw [← ha8] at q1 HBy
  rw [← hs0] at HST
  have q2 : (a8 : Int) ≤ 65536 := by omega
  have q3 : (0 : Int) ≤ (a8 : Int) := by omega
  have q4 : (a : Int) ≤ 8192 := by omega
  have q5 : (0 : Int) ≤ (a : Int) := by omega
  have hone := nC_one k
  have hsz := nC_size hkw
  obtain ⟨za, hza⟩ : ∃ za, za = nC zN := ⟨_, rfl⟩
  have hzero := zeroN
  rw [← hza] at hzero
  have HZS := Lib.hid (show za.size = 32 from by rw [hza]; exact nC_size zN_w)
  have HZO := Lib.hid (show za.all (·.oneCell') = true from by rw [hza]; exact nC_one zN)
  unfold nV at HST
  have HKW := Lib.hid hkw
  have HKL := Lib.hid hkl
  obtain ⟨arr, harr⟩ : ∃ arr, arr = nC k := ⟨_, rfl⟩
  rw [← harr] at hone hsz HST
  have HA := Lib.hid harr
  have HS32 := Lib.hid hsz
  have HONE := Lib.hid hone
  -- what Fix answers
  have hfix : ∃ (er : Int) (ar2 : Array Value) (y : Bool), (∀ W, Calls Try.prog 80 #[.string st] W (RetP (.tuple #[.agg ar2, .int .i64 er]) W)) ∧ ar2.size = 32 ∧ ar2.all (·.oneCell') = true ∧ ((er = 0 ∧ (∀ W, (Op.equalIn 10000 147 (.agg ar2) (.agg arr)).run Try.prog W = .ok y W) ∧ nmOk k = y) ∨ (¬ er = 0 ∧ nmOk k = false)) := by
    by_cases hg : goodN (cutN k)
    · refine ⟨0, nC (padNm (cutN k)), decide (padNm (cutN k) = k), fun W => by rw [hs0]; exact fix_ok (cutN k) W hg, nC_size (padNm_w hcl), nC_one _, .inl ⟨rfl, ?_, ?_⟩⟩
      · rw [harr]; exact eqN (padNm (cutN k)) k (padNm_w hcl) hkw
      · unfold nmOk
        by_cases he : padNm (cutN k) = k
        · rw [decide_eq_true ⟨hg, he⟩, decide_eq_true he]
        · rw [decide_eq_false (fun h => he h.2), decide_eq_false he]
    · exact ⟨4, nC zN, false, fun W => by rw [hs0]; exact fix_bad (cutN k) W hg, nC_size zN_w, nC_one _, .inr ⟨by decide, decide_eq_false (fun h => hg h.1)⟩⟩
  obtain ⟨er, ar2, y, hf1, hf2, hf3, hf4⟩ := hfix
  obtain ⟨ok, hok⟩ : ∃ ok, ok = nmOk k := ⟨_, rfl⟩
  rw [← hok] at hf4 ⊢
  have HFX := Lib.hid hf1
  have HF2 := Lib.hid hf2
  have HF3 := Lib.hid hf3
  have HF4 := Lib.hid hf4
  have HW0 := Lib.hid (Below.refl w.heap.size w)
  clear hS h hw ha hi hk hkw hst hs0 hcl ha8 hkl hza harr hone hsz hf1 hf2 hf3 hf4 hok
  go_enter Try.func51, Try.ntmps51
  go_wp2_with fail
  refine Calls.mono HBy.out ?_
  rintro r w1 ⟨u, rfl, b1, A, c, rfl, hrd⟩
  rw [HKL.out]
  have HB1 := Lib.hid b1
  have HR1 := Lib.hid hrd
  obtain ⟨ad, rfl⟩ : ∃ ad, A = some ad := by
    obtain ⟨ad, had, _, _⟩ := hrd 0 (by rw [HKL.out]; decide)
    exact ⟨ad, had⟩
  clear b1 hrd d0 d1 d2 d3 c0 c1 c2 c3 hX hsl HBy
  have HQ1 := Lib.hid (Bk.new w1 147 za)
  have HW1 := Lib.hid (HB1.out.trans ((Gw.alloc w1 (.cells za 147)).mono HB1.out.size))
  have harr0 := arrN (some ad) c
  go_wp2_with (first
    | (refine wp_loadRd rfl _ rfl ad rfl k HR1.out HKW.out ?_; rw [← HA.out])
    | (refine wp_storeN rfl _ _ rfl w1.heap.size arr rfl rfl 147 za HQ1.out HS32.out HZS.out HONE.out ?_; intro w2 k2 b2 o2; have HK2 := Lib.hid k2; have HW2 := Lib.hid (HW1.out.trans (b2 w.heap.size HB1.out.size)); clear k2 b2 o2)
    | (refine wp_loadG rfl _ rfl w1.heap.size rfl 147 arr HK2.out HS32.out ?_))
  obtain ⟨q, hq⟩ : ∃ q, q = w1.heap.size := ⟨_, rfl⟩
  rw [← hq] at HK2 ⊢
  clear hq HQ1 HW1 harr0
  refine Calls.mono (HST.out w2) ?_
  rintro r w3 ⟨rfl, b3⟩
  have HK3 := Lib.hid (HK2.out.below b3 HK2.out.lt)
  have HW3 := Lib.hid (HW2.out.trans (b3.mono HW2.out.size))
  clear b3
  go_wp2_with fail
  refine Calls.mono (HFX.out w3) ?_
  rintro r w4 ⟨rfl, b4⟩
  have HK4 := Lib.hid (HK3.out.below b4 HK3.out.lt)
  have HW4 := Lib.hid (HW3.out.trans (b4.mono HW3.out.size))
  clear b4
  have HQ4 := Lib.hid (Bk.new w4 147 za)
  have HK4a := Lib.hid (HK4.out.alloc (.cells za 147))
  have HW4a := Lib.hid (HW4.out.trans ((Gw.alloc w4 (.cells za 147)).mono HW4.out.size))
  have HLt := Lib.hid (show q ≠ w4.heap.size ∧ w.heap.size ≤ w4.heap.size from ⟨by have := HK4.out.lt; omega, HW4.out.size⟩)
  go_wp2_with (refine wp_storeN rfl _ _ rfl w4.heap.size ar2 rfl rfl 147 za HQ4.out HF2.out HZS.out HF3.out ?_; intro w5 k5 b5 o5; have HR5 := Lib.hid k5; have HK5 := Lib.hid (show Bk w5 q 147 arr from (o5 _ HLt.out.1).trans HK4a.out); have HW5 := Lib.hid (HW4a.out.trans (b5 w.heap.size HLt.out.2)); clear k5 b5 o5)
  obtain ⟨r, hr⟩ : ∃ r, r = w4.heap.size := ⟨_, rfl⟩
  rw [← hr] at HR5 ⊢
  clear hr HQ4 HK4a HW4a HLt HK4 HW4 HK3 HW3 HK2 HW2
  rcases HF4.out with ⟨rfl, heq, hy⟩ | ⟨hne, hy⟩
  · have HEQ := Lib.hid heq
    subst hy
    clear heq
    refine nmA _ _ _ q r arr ar2 st ok HS32.out HF2.out HK5.out HR5.out HST HEQ rfl ?_ ?_ ?_ ?_
    · rfl
    · rfl
    · rfl
    intro vals w6 hG h4 h5
    unfold IsV at h4 h5
    simp only [putD, Act.put, List.setIfInBounds_toArray, List.set_cons_zero, List.set_cons_succ, h4, h5]
    have HW6 := Lib.hid (HW5.out.trans (hG.mono HW5.out.size))
    clear hG h4 h5
    go_wp2_with fail
    go_ret2
    exact ⟨rfl, HW6.out⟩
  · subst hy
    refine nmB _ _ _ q r er arr st hne HS32.out HK5.out HST rfl ?_ ?_ ?_
    · rfl
    · rfl
    intro vals w6 hG h4 h5
    unfold IsV at h4 h5
    simp only [putD, Act.put, List.setIfInBounds_toArray, List.set_cons_zero, List.set_cons_succ, h4, h5]
    have HW6 := Lib.hid (HW5.out.trans (hG.mono HW5.out.size))
    clear hG h4 h5
    go_wp2_with fail
    go_ret2
    exact ⟨rfl, HW6.out⟩
end
end Go.Proofs.Ytaminpfgkegibaa
/- The reference's Well: among, Points. Conditions: lengths. (BEGUN: what builds stands here.) -/
namespace Go.Proofs.Ytaminpfgkegibaa
set_option linter.unusedVariables false
set_option linter.unusedSimpArgs false
open Go.RowKit
set_option maxHeartbeats 1000000
set_option maxRecDepth 100000
end Go.Proofs.Ytaminpfgkegibaa
/- The reference's Well: its regions that draw their order. Conditions: lengths. (BEGUN: Well itself is still to come.) -/
namespace Go.Proofs.Ytaminpfgkegibaa
set_option linter.unusedVariables false
set_option linter.unusedSimpArgs false
open Go.RowKit
set_option maxHeartbeats 1000000
set_option maxRecDepth 100000
end Go.Proofs.Ytaminpfgkegibaa
/- The reference's Well. Conditions: lengths. -/
namespace Go.Proofs.Ytaminpfgkegibaa
set_option linter.unusedVariables false
set_option linter.unusedSimpArgs false
open Go.RowKit Go.Maps
set_option maxHeartbeats 1000000
set_option maxRecDepth 100000
set_option maxHeartbeats 4000000
end Go.Proofs.Ytaminpfgkegibaa
