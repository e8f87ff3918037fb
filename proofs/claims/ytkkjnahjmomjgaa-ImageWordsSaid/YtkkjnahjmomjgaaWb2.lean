/- Texts joined: NmC NmD NmZ NmW SpD SpE SpG SpH. -/
import Derived.Test.YtkkjnahjmomjgaaWb1
import Derived.Test.YtkkjnahjmomjgaaRegT
import Derived.Lib.BytesEntry
import Derived.Lib.BufferWrite
import Derived.Laws.Rows
import Derived.Laws.Tables
import Derived.OwnWalk
/- Names: compared; loaded, stored, copied as whole rows; (table.Name).String. No conditions. -/
namespace Go.Proofs.Ytkkjnahjmomjgaa
set_option linter.unusedVariables false
set_option linter.unusedSimpArgs false
open Go.RowKit Go.Maps
set_option maxRecDepth 100000
set_option maxHeartbeats 400000
theorem litB_inj {x y : BitVec 8} (h : litB x = litB y) : x = y := by unfold litB at h; injection h with _ h; exact U8_inj h
theorem map_lit_inj : ∀ {k q : Nm}, k.map litB = q.map litB → k = q
  | [], [], _ => rfl
  | [], _ :: _, h => by cases h
  | _ :: _, [], h => by cases h
  | x :: k, y :: q, h => by
    simp only [List.map_cons, List.cons.injEq] at h
    rw [litB_inj h.1, map_lit_inj h.2]
theorem formedN {k : Nm} (h : nW k) : (nV k).formed Try.prog 120 = true := by
  unfold nV Value.formed
  rw [Try.underlying120]
  simp only [cells32]
  have : (nC k).size = 32 := by unfold nC; simp; exact h
  simp [this]
theorem eqN (k q : Nm) (hk : nW k) (hq : nW q) (W : World) : (Op.equalIn 10000 120 (.agg (nC k)) (.agg (nC q))).run Try.prog W = .ok (decide (k = q)) W := by
  obtain ⟨r, hr, hiff⟩ := run_equalIn_deep (P := Try.prog) 9998 2 120 (by kernel_rfl) W 2 2 (nV k) (nV q) (k.map litB) (q.map litB) (formedN hk) (formedN hq)
    (by rw [show (nV k).cells.toList = k.map b8 from by unfold nV nC Value.cells; simp]; exact lits_nm 0 k hk) (by rw [show (nV q).cells.toList = q.map b8 from by unfold nV nC Value.cells; simp]; exact lits_nm 0 q hq)
  have e : r = decide (k = q) := by
    rw [Bool.eq_iff_iff, hiff, decide_eq_true_eq]
    exact ⟨map_lit_inj, fun e => by rw [e]⟩
  rw [← e]
  exact hr
def zN : Nm := List.replicate 32 0#8
theorem zN_w : nW zN := List.length_replicate ..
theorem nC_size {k : Nm} (h : nW k) : (nC k).size = 32 := by unfold nC; simp; exact h
theorem nC_one (k : Nm) : (nC k).all (·.oneCell') = true := by
  unfold nC
  simp [b8_one]
theorem zeroN (W : World) : (zeroValue 120).run Try.prog W = .ok (.agg (nC zN)) W := by
  have e : nC zN = Array.replicate 32 (.int .u8 0) := by
    unfold nC zN
    apply Array.ext'
    simp [b8, U8]
  have h : (zeroValue 120).run Try.prog W = .ok (.agg (Array.replicate 32 (.int .u8 0))) W := by kernel_rfl
  rw [e]; exact h
theorem nrd {w : World} {g B : Nat} {E : TypeId} {k : Nm} (h : Bk w g E (nC k)) (hB : g < B) : Rd b8 w B (some ⟨g, 0, none⟩) k := h.rd rfl hB
theorem setRow_below {w : World} {B g : Nat} (hB : B ≤ g) (cs : Array Value) : Below B w (w.setRow g cs) :=
  ⟨rfl, rfl, rfl, by simp, fun k hk => setRow_other w g k cs (by omega)⟩
section
variable {ops : Array Oper} {rest : List Oper} {o : Oper} {a : Act} {w : World} {Q : Exit → Act → World → Prop}
theorem wp_loadN (hg : o.guard = none) (x : Operand) (ho : o.op = .load 120 x) (g : Nat) (hx : a.eval x = .pointer (some ⟨g, 0, none⟩)) (E : TypeId) (cs : Array Value) (hb : Bk w g E cs) (hs : cs.size = 32)
    (h : wpList Try.prog ops Q rest (a.put o.dst (.agg cs)) w) : wpList Try.prog ops Q (o :: rest) a w :=
  wpList_load_row hg 120 x ho g hx E cs (0, 0) _ hb Try.underlying120 rfl (by rw [hs]; kernel_rfl) h
/-- .. at an operation whose guard holds. -/
theorem wp_loadG (hw : Region.wanted o (yielded ops a.tmps) = true) (x : Operand) (ho : o.op = .load 120 x) (g : Nat) (hx : a.eval x = .pointer (some ⟨g, 0, none⟩)) (E : TypeId) (cs : Array Value) (hb : Bk w g E cs) (hs : cs.size = 32)
    (h : wpList Try.prog ops Q rest (a.put o.dst (.agg cs)) w) : wpList Try.prog ops Q (o :: rest) a w :=
  wpList_step fun _ hK => by
    rw [if_pos hw]
    exact wp_load_row 120 x ho g hx E cs (0, 0) _ hb Try.underlying120 rfl (by rw [hs]; kernel_rfl) (hK _ _ h)
theorem wp_storeN (hg : o.guard = none) (x y : Operand) (ho : o.op = .store 120 x y) (g : Nat) (cs : Array Value) (hx : a.eval x = .pointer (some ⟨g, 0, none⟩)) (hy : a.eval y = .agg cs) (E : TypeId) (old : Array Value) (hb : Bk w g E old)
    (hs : cs.size = 32) (hold : old.size = 32) (h1 : cs.all (·.oneCell') = true)
    (h : ∀ w', Bk w' g E cs → (∀ B, B ≤ g → Below B w w') → (∀ k, k ≠ g → w'.heap[k]? = w.heap[k]?) → wpList Try.prog ops Q rest (a.put o.dst undef) w') : wpList Try.prog ops Q (o :: rest) a w :=
  wpList_store_row hg 120 x y ho g cs hx hy E old hb (by rw [hs]; kernel_rfl) (by rw [hs, hold]) h1
    (h _ (setRow_heap w g old cs E (0, 0) hb) (fun B hB => setRow_below hB cs) (fun k hk => setRow_other w g k cs hk))
theorem wp_copyN (hg : o.guard = none) (d x : Operand) (hop : o.op = Op.call { callee := Callee.builtin Builtin.copy, args := #[d, x], argTypes := #[52, 9] })
    (g : Nat) (hd : a.eval d = .slice (some ⟨g, 0, none⟩) 32 32) (s : ByteArray) (hx : a.eval x = .string s) (E : TypeId) (cur : Array Value) (hb : Bk w g E cur) (hs : cur.size = 32) (hle : s.size ≤ 32)
    (h : ∀ w', Bk w' g E (Lib.byteCells s.data.toList ++ cur.toList.drop s.size).toArray → (∀ B, B ≤ g → Below B w w') → (∀ k, k ≠ g → w'.heap[k]? = w.heap[k]?) → wpList Try.prog ops Q rest (a.put o.dst (.int .i64 s.size)) w') : wpList Try.prog ops Q (o :: rest) a w := by
  refine wpList_plain hg fun K' hK' => ?_
  have hrun := Lib.run_copy_row_string (P := Try.prog) w 52 9 o.type 5 g 0 32 32 s cur E Try.underlying52 (by kernel_rfl) hb hle (by omega)
  unfold Oper.wp execOp
  simp only [hop, resolve, invoke, builtin, Sem.run_bind, Sem.run_pure, Result.andThen_ok, List.map_toArray, List.map_cons, List.map_nil, hd, hx, hrun]
  have e : ((cur.toList.take 0 ++ Lib.byteCells s.data.toList ++ cur.toList.drop (0 + s.size)).toArray) = (Lib.byteCells s.data.toList ++ cur.toList.drop s.size).toArray := by simp
  rw [e]
  exact hK' _ _ (h _ (setRow_heap w g cur _ E (0, 0) hb) (fun B hB => setRow_below hB _) (fun k hk => setRow_other w g k _ hk))
end
/-- The bytes ahead of the first 0. -/
def cutN (k : Nm) : Nm := k.takeWhile fun x => decide (x ≠ 0#8)
theorem cut_len : ∀ k : Nm, (cutN k).length ≤ k.length
  | [] => Nat.le_refl _
  | x :: k => by
    have := cut_len k
    unfold cutN at this ⊢
    rw [List.takeWhile_cons]
    split
    · rw [List.length_cons, List.length_cons]; omega
    · simp
theorem cut_take : ∀ k : Nm, k.take (cutN k).length = cutN k
  | [] => rfl
  | x :: k => by
    have ih := cut_take k
    unfold cutN at ih ⊢
    rw [List.takeWhile_cons]
    split
    · rw [List.length_cons, List.take_succ_cons, ih]
    · rfl
theorem idx_z : ∀ k : Nm, Lib.indexByte (Lib.bytesOf (k.map U8)) 0 = if (cutN k).length < k.length then ((cutN k).length : Int) else -1
  | [] => rfl
  | x :: k => by
    have ih := idx_z k
    show (if (UInt8.ofNat (U8 x).toNat == 0) = true then (0 : Int) else if (Lib.indexByte (Lib.bytesOf (k.map U8)) 0 == -1) = true then -1 else Lib.indexByte (Lib.bytesOf (k.map U8)) 0 + 1) = _
    by_cases hx : x = 0#8
    · subst hx
      have e : cutN (0#8 :: k) = [] := by unfold cutN; rw [List.takeWhile_cons]; simp
      rw [e, if_pos (by decide)]
      simp
    · have e : cutN (x :: k) = x :: cutN k := by unfold cutN; rw [List.takeWhile_cons]; simp [hx]
      have hb : (UInt8.ofNat (U8 x).toNat == 0) = false := by
        rw [beq_eq_false_iff_ne]
        intro h
        apply hx
        have h2 := congrArg UInt8.toNat h
        have hl := x.isLt
        have h3 : (U8 x).toNat = x.toNat := by unfold U8; omega
        rw [h3] at h2
        apply BitVec.eq_of_toNat_eq
        simp at h2 ⊢
        omega
      rw [hb, ih, e]
      have := cut_len k
      simp only [Bool.false_eq_true, if_false, List.length_cons]
      by_cases h : (cutN k).length < k.length
      · have e1 : ((((cutN k).length : Nat) : Int) == -1) = false := by rw [beq_eq_false_iff_ne]; omega
        rw [if_pos h, e1, if_neg (by decide), if_pos (show (cutN k).length + 1 < k.length + 1 by omega)]
        omega
      · rw [if_neg h, if_pos (show ((-1 : Int) == -1) = true by decide), if_neg (show ¬ (cutN k).length + 1 < k.length + 1 by omega)]
theorem ibyte_c (w : World) (g : Nat) (E : TypeId) (k : Nm) (hb : Bk w g E (nC k)) (hk : nW k) : Calls Try.prog 116 #[.slice (some ⟨g, 0, none⟩) 32 32, .int .u8 0] w fun e w' => e = .returned (.int .i64 (if (cutN k).length < 32 then ((cutN k).length : Int) else -1)) ∧ w' = w := by
  have hx : (k.map U8).length = 32 := by rw [List.length_map]; exact hk
  have hc : ∀ i, i < 32 → w.cell? ⟨g, 0 + i, none⟩ = some (.int .u8 ((k.map U8).getD i 0)) := fun i hi => by
    have hi' : i < k.length := by rw [hk]; exact hi
    rw [Nat.zero_add, hb.cell, nC, List.getElem?_toArray, List.getElem?_map, List.getElem?_eq_getElem hi', List.getD_eq_getElem?_getD, List.getElem?_map, List.getElem?_eq_getElem hi']
    rfl
  have hz := idx_z k
  rw [hk] at hz
  rw [← hz]
  have HX := Lib.hid (Lib.run_indexByteSlice (P := Try.prog) (w := w) g 0 32 32 (k.map U8) hx hc 0)
  clear hx hc hb hk hz
  go_enter Try.func116, Try.ntmps116
  go_wp2
  rw [run_callFunc_extern Try.func120 (by kernel_rfl) (by kernel_rfl) (by kernel_rfl) (e := Extern.BytealgIndexByte.indexByte) (by kernel_rfl), HX.out]
  simp only [Result.andThen]
  rw [Oper.upon_value]
  go_wp2
  go_ret
  exact ⟨rfl, rfl⟩
theorem index0_c (w : World) (g q : Nat) (E F : TypeId) (k : Nm) (hb : Bk w g E (nC k)) (hk : nW k) (hq : Bk w q F #[.int .u8 0]) : Calls Try.prog 113 #[.slice (some ⟨g, 0, none⟩) 32 32, .slice (some ⟨q, 0, none⟩) 1 1] w fun e w' => e = .returned (.int .i64 (if (cutN k).length < 32 then ((cutN k).length : Int) else -1)) ∧ w' = w := by
  have HC := Lib.hid (ibyte_c w g E k hb hk)
  obtain ⟨ix, hix⟩ : ∃ ix, ix = (if (cutN k).length < 32 then ((cutN k).length : Int) else -1) := ⟨_, rfl⟩
  rw [← hix] at HC ⊢
  clear hix
  have c0 := hq.cell 0
  clear hb hk hq
  go_enter Try.func113, Try.ntmps113
  go_wp2_with fail
  refine Calls.mono HC.out ?_
  rintro e w' ⟨rfl, rfl⟩
  go_wp2_with fail
  go_ret
  exact ⟨rfl, rfl⟩
theorem cut_reg (Q : Exit → Act → World → Prop) (a0 : Act) (w : World) (A B : Option Addr) (i j : Nat) (hi : i ≤ 32) (hj : Hid ((i : Int) + 1 = (j : Int))) (hj2 : j ≤ 32) (hsz : a0.tmps.size = 23) (sl0 : a0.tmps.getD 0 undef = .slice A 32 32) (sl1 : a0.tmps.getD 1 undef = .slice B 1 1) (sl7 : a0.tmps.getD 7 undef = .int .i64 (i : Int))
    (fin : ∀ (vals : Nat → Value) (w1 : World), Below w.heap.size w w1 → (IsV (.slice A i 32)) (vals 9) w1 → (IsV (.slice (cutA A 32 j) (32 - j) (32 - j))) (vals 10) w1 → (IsV (Go.Value.bool true)) (vals 11) w1 → Q .normal (putD vals [13, 14, 15, 16, 17, 18, 19, 20, 21, 4, 5, 6] 0 a0) w1) :
    (Code.region 3 (regIn Try.f107 3) true).wp Try.prog Q a0 w := by
  refine region_by (G := fun w w1 => Below w.heap.size w w1) [IsV (.slice A 32 32),
    IsV (.int .i64 (i : Int)),
    IsV (.slice A i 32),
    IsV (.slice A 32 32),
    IsV (.int .i64 (i : Int)),
    IsV (.slice B 1 1),
    IsV (.int .i64 1),
    IsV (.int .i64 (j : Int)),
    IsV (.slice (cutA A 32 j) (32 - j) (32 - j)),
    IsV (.slice A i 32),
    IsV (.slice (cutA A 32 j) (32 - j) (32 - j)),
    IsV (Go.Value.bool true)]
    [13, 14, 15, 16, 17, 18, 19, 20, 21, 4, 5, 6] (by kernel_rfl) (Gw.drew _) Gw.trans (by rw [hsz]; kernel_rfl) (by kernel_rfl) ?_ ?_ ?_
  · intro f hf
    simp only [List.mem_cons, List.not_mem_nil, or_false] at hf
    rcases hf with rfl | rfl | rfl | rfl | rfl | rfl | rfl | rfl | rfl | rfl | rfl | rfl <;> intro v a b h g <;> first | exact IsV.mono h
  · refine ⟨?_, ?_, ?_, ?_, ?_, ?_, ?_, ?_, ?_, ?_, ?_, ?_, trivial⟩
    · exact owes_mv 0 (by kernel_rfl) (by kernel_rfl) (by kernel_rfl) sl0 (fun _ => rfl)
    · exact owes_mv 7 (by kernel_rfl) (by kernel_rfl) (by kernel_rfl) sl7 (fun _ => rfl)
    · refine owes_v (Go.Op.slice 52 (Go.Operand.tmp 13) none (some (Go.Operand.tmp 14)) none) 52 [0, 1] (by kernel_rfl) (by kernel_rfl) (by kernel_rfl) rfl fun vals w1 ρ hG hF hρ hcst hfun => ?_
      have e13 : ρ (.tmp 13) = .slice A 32 32 := ((hρ 13).trans (slotJ [0, 1] (by rw [hsz]; decide) (by kernel_rfl))).trans (hF 0 (by decide))
      have e14 : ρ (.tmp 14) = .int .i64 (i : Int) := ((hρ 14).trans (slotJ [0, 1] (by rw [hsz]; decide) (by kernel_rfl))).trans (hF 1 (by decide))
      have p1 : (0 : Int) ≤ (i : Int) := by omega
      have p2 : (i : Int) ≤ (32 : Int) := by omega
      clear hρ hF hcst hfun sl0 sl1 sl7 fin
      exact opv_val (by go_simp <;> rfl) ⟨gw_self _, rfl⟩
    · exact owes_mv 0 (by kernel_rfl) (by kernel_rfl) (by kernel_rfl) sl0 (fun _ => rfl)
    · exact owes_mv 7 (by kernel_rfl) (by kernel_rfl) (by kernel_rfl) sl7 (fun _ => rfl)
    · exact owes_mv 1 (by kernel_rfl) (by kernel_rfl) (by kernel_rfl) sl1 (fun _ => rfl)
    · refine owes_v (Go.Op.call { callee := Go.Callee.builtin Go.Builtin.len, args := #[Go.Operand.tmp 18], argTypes := #[52] }) 3 [5] (by kernel_rfl) (by kernel_rfl) (by kernel_rfl) rfl fun vals w1 ρ hG hF hρ hcst hfun => ?_
      have e18 : ρ (.tmp 18) = .slice B 1 1 := ((hρ 18).trans (slotJ [5] (by rw [hsz]; decide) (by kernel_rfl))).trans (hF 5 (by decide))
      clear hρ hF hcst hfun sl0 sl1 sl7 fin
      exact opv_val (by go_simp <;> rfl) ⟨gw_self _, rfl⟩
    · refine owes_v (Go.Op.binOp Go.BinOp.add 3 (Go.Operand.tmp 17) (Go.Operand.tmp 19) 3) 3 [4, 6] (by kernel_rfl) (by kernel_rfl) (by kernel_rfl) rfl fun vals w1 ρ hG hF hρ hcst hfun => ?_
      have e17 : ρ (.tmp 17) = .int .i64 (i : Int) := ((hρ 17).trans (slotJ [4, 6] (by rw [hsz]; decide) (by kernel_rfl))).trans (hF 4 (by decide))
      have e19 : ρ (.tmp 19) = .int .i64 1 := ((hρ 19).trans (slotJ [4, 6] (by rw [hsz]; decide) (by kernel_rfl))).trans (hF 6 (by decide))
      have k : IntKind.i64.wrap ((i : Int) + 1) = (j : Int) := by rw [hj.out]; exact wrapIn (by omega) (by omega)
      clear hρ hF hcst hfun sl0 sl1 sl7 fin
      exact opv_val (by go_simp <;> rfl) ⟨gw_self _, rfl⟩
    · refine owes_v (Go.Op.slice 52 (Go.Operand.tmp 16) (some (Go.Operand.tmp 20)) none none) 52 [3, 7] (by kernel_rfl) (by kernel_rfl) (by kernel_rfl) rfl fun vals w1 ρ hG hF hρ hcst hfun => ?_
      have e16 : ρ (.tmp 16) = .slice A 32 32 := ((hρ 16).trans (slotJ [3, 7] (by rw [hsz]; decide) (by kernel_rfl))).trans (hF 3 (by decide))
      have e20 : ρ (.tmp 20) = .int .i64 (j : Int) := ((hρ 20).trans (slotJ [3, 7] (by rw [hsz]; decide) (by kernel_rfl))).trans (hF 7 (by decide))
      have p1 : (0 : Int) ≤ (j : Int) := by omega
      have p2 : (j : Int) ≤ (32 : Int) := by omega
      have p3 := sliced_cut A j 32 32
      clear hρ hF hcst hfun sl0 sl1 sl7 fin
      exact opv_val (by go_simp <;> rfl) ⟨gw_self _, rfl⟩
    · exact owes_mvj 2 15 (by kernel_rfl) (by kernel_rfl) (by kernel_rfl) (by kernel_rfl) (by rw [hsz]; decide) (fun v w h => h)
    · exact owes_mvj 8 21 (by kernel_rfl) (by kernel_rfl) (by kernel_rfl) (by kernel_rfl) (by rw [hsz]; decide) (fun v w h => h)
    · refine owes_v (Go.Op.assign (Go.Operand.const (Go.Value.bool true))) 4 [] (by kernel_rfl) (by kernel_rfl) (by kernel_rfl) rfl fun vals w1 ρ hG hF hρ hcst hfun => ?_
      clear hρ hF hfun sl0 sl1 sl7 fin
      exact opv_val (by go_simp <;> rfl) ⟨gw_self _, rfl⟩
  · intro vals w1 hG hF
    exact fin vals w1 hG (hF 9 (by decide +kernel)) (hF 10 (by decide +kernel)) (hF 11 (by decide +kernel))
theorem cut0_c (w : World) (g q : Nat) (E F : TypeId) (k : Nm) (hb : Bk w g E (nC k)) (hk : nW k) (hq : Bk w q F #[.int .u8 0]) : Calls Try.prog 107 #[.slice (some ⟨g, 0, none⟩) 32 32, .slice (some ⟨q, 0, none⟩) 1 1] w fun e w' => ∃ v f, e = .returned (.tuple #[.slice (some ⟨g, 0, none⟩) (cutN k).length 32, v, .bool f]) ∧ Below w.heap.size w w' := by
  have HI := Lib.hid (index0_c w g q E F k hb hk hq)
  have hl := cut_len k
  rw [hk] at hl
  obtain ⟨n, hn⟩ : ∃ n, n = (cutN k).length := ⟨_, rfl⟩
  rw [← hn] at HI hl ⊢
  clear hn hb hk hq
  by_cases h : n < 32
  · rw [if_pos h] at HI
    have p1 : (0 : Int) ≤ (n : Int) := by omega
    go_enter Try.func107, Try.ntmps107
    go_wp2_with fail
    refine Calls.mono HI.out ?_
    rintro e w' ⟨rfl, rfl⟩
    go_wp2_with fail
    refine cut_reg _ _ _ (some ⟨g, 0, none⟩) (some ⟨q, 0, none⟩) n (n + 1) hl (Lib.hid (by omega)) (by omega) rfl rfl rfl rfl ?_
    intro vals w1 hG h4 h5 h6
    unfold IsV at h4 h5 h6
    simp only [putD, Act.put, List.setIfInBounds_toArray, List.set_cons_zero, List.set_cons_succ, h4, h5, h6]
    have HB := Lib.hid hG
    clear h4 h5 h6 hG
    go_wp2_with fail
    go_ret3
    exact ⟨_, _, rfl, HB.out⟩
  · have e : n = 32 := by omega
    subst e
    rw [if_neg h] at HI
    clear h hl
    go_enter Try.func107, Try.ntmps107
    go_wp2_with fail
    refine Calls.mono HI.out ?_
    rintro e w' ⟨rfl, rfl⟩
    go_wp2_with fail
    go_ret3
    exact ⟨_, _, rfl, Below.refl _ _⟩
theorem string_c (w : World) (k : Nm) (hk : nW k) : Calls Try.prog 95 #[nV k] w (RetP (.string (strB (cutN k))) w) := by
  have HS := Lib.hid (nC_size hk)
  have HK := Lib.hid hk
  obtain ⟨arr, harr⟩ : ∃ arr, arr = nC k := ⟨_, rfl⟩
  have HA := Lib.hid harr
  unfold nV
  rw [← harr]
  rw [← harr] at HS
  have HB := Lib.hid (Bk.new w 120 arr)
  have HW := Lib.hid (Gw.alloc w (.cells arr 120))
  clear harr hk
  go_enter Try.func95, Try.ntmps95
  go_wp2_with fail
  refine Calls.mono (cut0_c _ w.heap.size (w.heap.size + 1) 120 5 k (by rw [← HA.out]; exact HB.out.alloc _) HK.out (by have q := Bk.new (w.alloc (.cells arr 120)) 5 #[.int .u8 0]; simpa using q)) ?_
  rintro e w1 ⟨v, f, rfl, b1⟩
  have hrd : Rd b8 w1 w1.heap.size (some ⟨w.heap.size, 0, none⟩) (cutN k) := by
    have q := nrd (k := k) (by rw [← HA.out]; exact (HB.out.alloc _).below b1 (HB.out.alloc _).lt) (Nat.lt_of_lt_of_le (HB.out.alloc (.cells #[.int .u8 0] 5)).lt b1.size)
    have := q.take (cutN k).length
    rwa [cut_take] at this
  have kc := str_conv (cutN k) (some ⟨w.heap.size, 0, none⟩) 32 _ w1 hrd
  have HF := Lib.hid (show Below w.heap.size w w1 from (HW.out.trans ((Gw.alloc _ _).mono (by simp))).trans (b1.mono (by simp; omega)))
  clear b1 hrd
  go_wp2_with fail
  go_ret
  exact ⟨rfl, HF.out⟩
end Go.Proofs.Ytkkjnahjmomjgaa
/- What table.Fix answers. No conditions. -/
namespace Go.Proofs.Ytkkjnahjmomjgaa
set_option linter.unusedVariables false
set_option linter.unusedSimpArgs false
open Go.RowKit Go.Maps
set_option maxRecDepth 100000
set_option maxHeartbeats 800000
theorem strB_size (bs : Nm) : (strB bs).size = bs.length := by
  show (strL bs).toArray.size = _
  simp [strL]
theorem strB_cells (bs : Nm) : Lib.byteCells (strB bs).data.toList = bs.map b8 := by
  show Lib.byteCells (strL bs).toArray.toList = _
  unfold Lib.byteCells strL
  simp only [List.map_map]
  rfl
theorem str_eq (x y : Nm) : ((strB x).toList == (strB y).toList) = decide (x = y) := by
  by_cases h : x = y
  · subst h; simp
  · have hne : ¬ (strB x).toList = (strB y).toList := fun e => h (strB_inj (by
      rw [ByteArray.toList_eq, ByteArray.toList_eq] at e
      exact ByteArray.ext (Array.toList_inj.1 e)))
    simp [h, hne]
/-- A text as a name. -/
def padNm (bs : Nm) : Nm := bs ++ List.replicate (32 - bs.length) 0#8
theorem padNm_w {bs : Nm} (h : bs.length ≤ 32) : nW (padNm bs) := by
  unfold nW padNm
  rw [List.length_append, List.length_replicate]
  omega
theorem nC_list (k : Nm) : (nC k).toList = k.map b8 := by unfold nC; simp
theorem pad_cells {bs : Nm} (h : bs.length ≤ 32) : (Lib.byteCells (strB bs).data.toList ++ (nC zN).toList.drop (strB bs).size).toArray = nC (padNm bs) := by
  rw [strB_cells, strB_size, nC_list]
  unfold nC padNm zN
  rw [List.map_append, List.map_replicate, List.map_replicate, List.drop_replicate]
def fixR (bs : Nm) (e1 e2 : Bool) : Value := match e1, e2 with
  | false, true => .tuple #[nV (padNm bs), .int .i64 0]
  | _, _ => .tuple #[nV zN, .int .i64 4]
theorem fix_res {tmps : Array Value} {W : World} {g : Nat} {E : TypeId} {k : Nm} {y : Value} (hk : nW k) (hb : Bk W g E (nC k)) (h2 : tmps.getD 2 undef = .pointer (some ⟨g, 0, none⟩)) (h3 : tmps.getD 3 undef = y) :
    (results Try.f67 tmps).run Try.prog W = .ok (.tuple #[nV k, y]) W := by
  have hl := run_loadVar_row (P := Try.prog) W g E 120 (nC k) (0, 0) _ hb Try.underlying120 rfl (by rw [nC_size hk]; kernel_rfl)
  have h2' : tmps[2]?.getD undef = .pointer (some ⟨g, 0, none⟩) := by simpa using h2
  have h3' : tmps[3]?.getD undef = y := by simpa using h3
  unfold nV
  simp [results, Try.results67, h2', h3', asAddr, hl]
theorem fix_c (bs : Nm) (w : World) (h : bs.length ≤ 32) (e1 e2 : Bool) (h1 : e1 = decide (padNm bs = zN)) (h2 : e2 = decide (cutN (padNm bs) = bs)) : Calls Try.prog 67 #[.string (strB bs)] w (RetP (fixR bs e1 e2) w) := by
  obtain ⟨s, hs⟩ : ∃ s, s = strB bs := ⟨_, rfl⟩
  have hz : s.size = bs.length := by rw [hs]; exact strB_size bs
  have hpc := pad_cells h
  have hpw := padNm_w h
  have HST := Lib.hid (fun W => string_c W (padNm bs) hpw)
  have hse := str_eq (cutN (padNm bs)) bs
  rw [← h2] at hse
  rw [← hs] at hpc hse ⊢
  have q1 : decide ((32 : Int) < (s.size : Int)) = false := by simp; omega
  obtain ⟨za, hza⟩ : ∃ za, za = nC zN := ⟨_, rfl⟩
  obtain ⟨pa, hpa⟩ : ∃ pa, pa = nC (padNm bs) := ⟨_, rfl⟩
  have hzero := zeroN
  have heq := eqN (padNm bs) zN hpw zN_w
  rw [← hza] at hzero hpc heq
  rw [← hpa] at hpc heq
  rw [← h1] at heq
  unfold nV at HST
  rw [← hpa] at HST
  have HZ := Lib.hid hza
  have HP := Lib.hid hpa
  have HPW := Lib.hid hpw
  have HZS := Lib.hid (show za.size = 32 from by rw [hza]; exact nC_size zN_w)
  have HZO := Lib.hid (show za.all (·.oneCell') = true from by rw [hza]; exact nC_one zN)
  have HPS := Lib.hid (show pa.size = 32 from by rw [hpa]; exact nC_size hpw)
  have HPO := Lib.hid (show pa.all (·.oneCell') = true from by rw [hpa]; exact nC_one _)
  have HSZ := Lib.hid (show s.size ≤ 32 from by omega)
  have HPC := Lib.hid hpc
  obtain ⟨cs, hcs⟩ : ∃ cs, cs = strB (cutN (padNm bs)) := ⟨_, rfl⟩
  rw [← hcs] at hse HST
  have HB := Lib.hid (show Bk ((w.alloc (.cells za 120)).alloc (.cells za 120)) w.heap.size 120 za ∧ Bk ((w.alloc (.cells za 120)).alloc (.cells za 120)) (w.heap.size + 1) 120 za ∧ Below w.heap.size w ((w.alloc (.cells za 120)).alloc (.cells za 120)) from by
    refine ⟨(Bk.new w _ _).alloc _, ?_, (Gw.alloc w _).trans ((Gw.alloc _ _).mono (by simp))⟩
    have q := Bk.new (w.alloc (.cells za 120)) 120 za
    simpa using q)
  obtain ⟨n1, hn1⟩ : ∃ n, n = w.heap.size + 1 := ⟨_, rfl⟩
  have HN := Lib.hid (show w.heap.size ≤ n1 ∧ w.heap.size ≠ n1 from by omega)
  clear h hs hz hza hpa hpc hpw h1 h2 hcs
  cases e1
  · cases e2
    · go_enter Try.func67, Try.ntmps67
      go_wp2_with (first
        | (refine wp_copyN rfl _ _ rfl (w.heap.size + 1) rfl s rfl 120 za HB.out.2.1 HZS.out HSZ.out ?_; intro w3 k3 b3 o3; rw [HPC.out] at k3; have HK3 := Lib.hid k3; have HB3 := Lib.hid (HB.out.2.2.trans (b3 w.heap.size (by omega))); have HR3 := Lib.hid (show Bk w3 w.heap.size 120 za from (o3 _ (by omega)).trans HB.out.1); clear k3 b3 o3)
        | (refine wp_loadG rfl _ rfl (w.heap.size + 1) rfl 120 pa HK3.out HPS.out ?_))
      refine Calls.mono (HST.out _) ?_
      rintro e w4 ⟨rfl, b4⟩
      have HR4 := Lib.hid (HR3.out.below b4 HR3.out.lt)
      have HB4 := Lib.hid (HB3.out.trans (b4.mono HB3.out.size))
      clear b4
      go_wp2_with (refine wp_storeN rfl _ _ rfl w.heap.size za rfl rfl 120 za HR4.out HZS.out HZS.out HZO.out ?_; intro w5 k5 b5 o5)
      refine bodyPost_ret (v := .tuple #[nV zN, .int .i64 4]) (fix_res zN_w (by rw [← HZ.out]; exact k5) rfl rfl) rfl ⟨rfl, ?_⟩
      exact HB4.out.trans (b5 _ (Nat.le_refl _))
    · go_enter Try.func67, Try.ntmps67
      go_wp2_with (first
        | (refine wp_copyN rfl _ _ rfl (w.heap.size + 1) rfl s rfl 120 za HB.out.2.1 HZS.out HSZ.out ?_; intro w3 k3 b3 o3; rw [HPC.out] at k3; have HK3 := Lib.hid k3; have HB3 := Lib.hid (HB.out.2.2.trans (b3 w.heap.size (by omega))); have HR3 := Lib.hid (show Bk w3 w.heap.size 120 za from (o3 _ (by omega)).trans HB.out.1); clear k3 b3 o3)
        | (refine wp_loadG rfl _ rfl (w.heap.size + 1) rfl 120 pa HK3.out HPS.out ?_))
      refine Calls.mono (HST.out _) ?_
      rintro e w4 ⟨rfl, b4⟩
      have HR4 := Lib.hid (HR3.out.below b4 HR3.out.lt)
      have HK4 := Lib.hid (HK3.out.below b4 HK3.out.lt)
      have HB4 := Lib.hid (HB3.out.trans (b4.mono HB3.out.size))
      clear b4
      go_wp2_with (first
        | (refine wp_loadN rfl _ rfl (w.heap.size + 1) rfl 120 pa HK4.out HPS.out ?_)
        | (refine wp_storeN rfl _ _ rfl w.heap.size pa rfl rfl 120 za HR4.out HPS.out HZS.out HPO.out ?_; intro w5 k5 b5 o5))
      refine bodyPost_ret (v := .tuple #[nV (padNm bs), .int .i64 0]) (fix_res HPW.out (by rw [← HP.out]; exact k5) rfl rfl) rfl ⟨rfl, ?_⟩
      exact HB4.out.trans (b5 _ (Nat.le_refl _))
  · go_enter Try.func67, Try.ntmps67
    go_wp2_with (first
      | (refine wp_copyN rfl _ _ rfl (w.heap.size + 1) rfl s rfl 120 za HB.out.2.1 HZS.out HSZ.out ?_; intro w3 k3 b3 o3; rw [HPC.out] at k3; have HK3 := Lib.hid k3; have HB3 := Lib.hid (HB.out.2.2.trans (b3 w.heap.size (by omega))); have HR3 := Lib.hid (show Bk w3 w.heap.size 120 za from (o3 _ (by omega)).trans HB.out.1); clear k3 b3 o3)
      | (refine wp_loadG rfl _ rfl (w.heap.size + 1) rfl 120 pa HK3.out HPS.out ?_)
      | (refine wp_storeN rfl _ _ rfl w.heap.size za rfl rfl 120 za HR3.out HZS.out HZS.out HZO.out ?_; intro w5 k5 b5 o5))
    refine bodyPost_ret (v := .tuple #[nV zN, .int .i64 4]) (fix_res zN_w (by rw [← HZ.out]; exact k5) rfl rfl) rfl ⟨by cases e2 <;> rfl, ?_⟩
    exact HB3.out.trans (b5 _ (Nat.le_refl _))
end Go.Proofs.Ytkkjnahjmomjgaa
/- Which names may be; table.Fix. No conditions. -/
namespace Go.Proofs.Ytkkjnahjmomjgaa
set_option linter.unusedVariables false
set_option linter.unusedSimpArgs false
open Go.RowKit Go.Maps
set_option maxRecDepth 100000
set_option maxHeartbeats 800000
/-- May a name be? -/
def goodN (bs : Nm) : Prop := 1 ≤ bs.length ∧ bs.length ≤ 32 ∧ ∀ x ∈ bs, x ≠ 0#8
instance decGood (bs : Nm) : Decidable (goodN bs) := inferInstanceAs (Decidable (1 ≤ bs.length ∧ bs.length ≤ 32 ∧ ∀ x ∈ bs, x ≠ 0#8))
theorem cut_app : ∀ (bs : Nm) (n : Nat), (∀ x ∈ bs, x ≠ 0#8) → cutN (bs ++ List.replicate n 0#8) = bs
  | [], 0, _ => rfl
  | [], n + 1, _ => by
    unfold cutN
    rw [List.nil_append, List.replicate_succ, List.takeWhile_cons]
    simp
  | x :: bs, n, h => by
    have ih := cut_app bs n (fun y hy => h y (List.mem_cons_of_mem _ hy))
    have hx := h x List.mem_cons_self
    unfold cutN at ih ⊢
    rw [List.cons_append, List.takeWhile_cons, if_pos (by simpa using hx), ih]
theorem good_cut {bs : Nm} (h : goodN bs) : cutN (padNm bs) = bs := cut_app bs _ h.2.2
theorem cut_mem : ∀ (k : Nm), ∀ x ∈ cutN k, x ≠ 0#8
  | [], x, h => by cases h
  | y :: k, x, h => by
    unfold cutN at h
    rw [List.takeWhile_cons] at h
    split at h
    · rename_i hy
      rcases List.mem_cons.1 h with rfl | h
      · simpa using hy
      · exact cut_mem k x h
    · cases h
theorem cut_zero : cutN zN = [] := by decide +kernel
theorem good_ne {bs : Nm} (h : goodN bs) : padNm bs ≠ zN := fun e => by
  have h1 := good_cut h
  rw [e, cut_zero] at h1
  have h2 := h.1
  rw [← h1] at h2
  simp at h2
theorem fix_ok (bs : Nm) (w : World) (h : goodN bs) : Calls Try.prog 67 #[.string (strB bs)] w (RetP (.tuple #[nV (padNm bs), .int .i64 0]) w) :=
  fix_c bs w h.2.1 false true (by symm; rw [decide_eq_false_iff_not]; exact good_ne h) (by symm; rw [decide_eq_true_eq]; exact good_cut h)
end Go.Proofs.Ytkkjnahjmomjgaa
/- The names that Check lets, as bytes. No conditions. -/
namespace Go.Proofs.Ytkkjnahjmomjgaa
set_option linter.unusedVariables false
set_option linter.unusedSimpArgs false
open Go.RowKit Go.Maps
set_option maxHeartbeats 1000000
theorem index_neg : ∀ l : List UInt8, Lib.indexByte l 0 < 0 → ∀ b ∈ l, b ≠ 0
  | [], _, b, hb => by cases hb
  | x :: l, h, b, hb => by
    have e : Lib.indexByte (x :: l) 0 = if (x == 0) = true then 0 else if (Lib.indexByte l 0 == -1) = true then -1 else Lib.indexByte l 0 + 1 := rfl
    rw [e] at h
    by_cases h1 : (x == 0) = true
    · rw [if_pos h1] at h; omega
    · rw [if_neg h1] at h
      have hl : Lib.indexByte l 0 < 0 := by
        by_cases h2 : (Lib.indexByte l 0 == -1) = true
        · have := eq_of_beq h2; omega
        · rw [if_neg h2] at h; omega
      rcases List.mem_cons.1 hb with rfl | hb
      · intro e0; rw [e0] at h1; exact h1 rfl
      · exact index_neg l hl b hb
def bitsOf (s : ByteArray) : Nm := s.data.toList.map UInt8.toBitVec
theorem strB_bits (s : ByteArray) : strB (bitsOf s) = s := by
  apply ByteArray.ext
  show (strL (s.data.toList.map UInt8.toBitVec)).toArray = s.data
  unfold strL
  rw [List.map_map, show (UInt8.ofBitVec ∘ UInt8.toBitVec) = id from rfl, List.map_id]
theorem bitsOf_len (s : ByteArray) : (bitsOf s).length = s.size := by
  unfold bitsOf
  rw [List.length_map]
  rfl
theorem good_bits {s : ByteArray} (h : goodS s = true) : goodN (bitsOf s) := by
  obtain ⟨h1, h2⟩ := goodS_size h
  have hl := bitsOf_len s
  refine ⟨by omega, by omega, fun x hx e => ?_⟩
  unfold goodS at h
  simp only [Bool.and_eq_true, decide_eq_true_eq] at h
  unfold bitsOf at hx
  obtain ⟨b, hb, rfl⟩ := List.mem_map.1 hx
  refine index_neg _ h.2.2 b hb ?_
  have := congrArg UInt8.ofBitVec e
  exact this
theorem nameW_pad (s : ByteArray) : nameW s = padNm (bitsOf s) := by
  unfold nameW padNm
  rw [bitsOf_len]
  rfl
end Go.Proofs.Ytkkjnahjmomjgaa
/- space: Alloc, Reset. Conditions: lengths. -/
namespace Go.Proofs.Ytkkjnahjmomjgaa
set_option linter.unusedVariables false
set_option linter.unusedSimpArgs false
open Go.RowKit
/-- The words with a new object of n words at t. -/
def allocW (ws : List (BitVec 64)) (t n : Nat) (x : BitVec 64) : List (BitVec 64) := zeroW (ws.set t x) (t + 1) (n - 1)
set_option maxHeartbeats 400000
set_option maxRecDepth 100000
theorem alloc_ok3 (w : World) (B s g : Nat) (v : Value) (ws : List (BitVec 64)) (b t e : Nat) (sp : SpAt w B s g v ws b t e) (hl : ws.length ≤ 100000) (hp hb ht : Int) (n : Nat) (hr : rightH hp hb false ht = true) (hn : sizeH hp hb false ht = (n : Int)) (hn1 : 1 ≤ n) (hf : n ≤ e - t) :
    Calls Try.prog 60 #[.pointer (some ⟨s, 0, none⟩), .agg #[.int .i64 hp, .int .i64 hb, .bool false, .int .i64 ht]] w fun r w' => r = .returned (.tuple #[.int .i64 t, .int .i64 0]) ∧ SpAt w' B s g v (allocW ws t n (packH hp hb false ht)) b (t + n) e ∧ Below B w w' ∧ Two w w' s v.ownBlock := by
  have HPk := Lib.hid (fun W => pack_c hp hb false ht W)
  have HSz := Lib.hid (fun W => size_c hp hb false ht W)
  rw [hn] at HSz
  have hk := Bk.new w 112 #[.int .i64 hp, .int .i64 hb, .bool false, .int .i64 ht]
  have HK := Lib.hid hk
  have hB := Gw.alloc w (.cells #[.int .i64 hp, .int .i64 hb, .bool false, .int .i64 ht] 112)
  have HB := Lib.hid hB
  have e1 : errH hp hb false ht = 0 := by unfold errH; rw [hr]; rfl
  rw [e1] at HPk
  have HFr := Lib.hid (fun W (h : Below w.heap.size w W) => free_c W B s g v ws b t e (sp.below h) hl)
  obtain ⟨room, hroom⟩ : ∃ r, r = e - t := ⟨_, rfl⟩
  rw [← hroom] at HFr
  have u1 : ¬ room < n := by omega
  obtain ⟨x, hx⟩ : ∃ x, x = packH hp hb false ht := ⟨_, rfl⟩
  rw [← hx] at HPk ⊢
  have hte := sp.te
  have hel := sp.el
  have htl : t < ws.length := by omega
  have HSet := Lib.hid (fun W (h : MemAt W B g v ws) => set_in W B g v ws t x htl hl h)
  have hlen2 : (ws.set t x).length = ws.length := List.length_set
  have HZr := Lib.hid (fun W (h : SpAt W B s g v (ws.set t x) b t e) => zero_c W B s g v (ws.set t x) b t e (t + 1) (t + n) h (by omega) (by rw [hlen2]; omega) (by rw [hlen2]; exact hl))
  obtain ⟨tn, htn⟩ : ∃ tn, tn = t + n := ⟨_, rfl⟩
  have htn1 : tn - (t + 1) = n - 1 := by omega
  have ht1 : ((t + 1 : Nat) : Int) = (t : Int) + 1 := by omega
  rw [← htn, htn1, ht1] at HZr
  rw [← htn]
  have d2 : (t : Int) + (n : Int) = (tn : Int) := by omega
  have d3 : (tn : Int) ≤ 100000 := by omega
  have d4 : (t : Int) ≤ 100000 := by omega
  have d5 : (0 : Int) ≤ (tn : Int) := by omega
  have HX := Lib.hid (And.intro hlen2 (And.intro (show b ≤ tn by have := sp.bt; omega) (show tn ≤ e by omega)))
  have HSP := Lib.hid sp
  clear sp hr hn hk hB e1 hl hf hroom hx hte hel htl hlen2 htn htn1 hn1
  go_enter Try.func60, Try.ntmps60
  go_wp2_with fail
  refine Calls.mono (HPk.out _) ?_
  rintro r w1 ⟨rfl, b1⟩
  have HB1 := Lib.hid (HB.out.trans (b1.mono HB.out.size))
  have hk1 := HK.out.below b1 HK.out.lt
  obtain ⟨k0, k1, k2, k3⟩ := hk1.four
  clear b1 hk1
  go_wp2_with fail
  refine Calls.mono (HSz.out _) ?_
  rintro r w2 ⟨rfl, b2⟩
  have HB2 := Lib.hid (HB1.out.trans (b2.mono HB1.out.size))
  clear b2
  go_wp2_with fail
  refine Calls.mono (HFr.out _ HB2.out) ?_
  rintro r w3 ⟨rfl, b3⟩
  have HB3 := Lib.hid (HB2.out.trans (b3.mono HB2.out.size))
  have hsp3 := HSP.out.below HB3.out
  obtain ⟨c0, c1, c2, c3⟩ := hsp3.four
  have HSP3 := Lib.hid hsp3
  clear b3 hsp3 k0 k1 k2 k3
  go_wp2_with fail
  refine Calls.mono (HSet.out w3 HSP3.out.mem) ?_
  rintro r w4 ⟨rfl, hm4, hg4⟩
  have hsp4 := HSP3.out.memTo hm4 hg4 HX.out.1
  have HB4 : Hid (Below B w w4) := Lib.hid ((HB3.out.mono HSP.out.mem.le).trans (HSP3.out.mem.own hg4))
  have HT4 : Hid (Two w w4 s v.ownBlock) := Lib.hid ((Two.below HB3.out).trans (Two.grown hg4))
  have HSP4 := Lib.hid hsp4
  clear hm4 hg4 hsp4 HSP3
  go_wp2_with fail
  refine Calls.mono (HZr.out w4 HSP4.out) ?_
  rintro r w5 ⟨rfl, hsp5, hg5⟩
  have HB5 : Hid (Below B w w5) := Lib.hid (HB4.out.trans (HSP4.out.mem.own hg5))
  have HT5 : Hid (Two w (w5.setCell ⟨s, 2, none⟩ (.int .i64 tn)) s v.ownBlock) := Lib.hid ((HT4.out.trans (Two.grown hg5)).trans (Two.setc w5 s 2 _ _))
  obtain ⟨c0, c1, c2, c3⟩ := hsp5.four
  have hf2 := hsp5.blk.free 2
  have hsl := hsp5.blk.lt
  have hfin : SpAt (w5.setCell ⟨s, 2, none⟩ (.int .i64 tn)) B s g v (allocW ws t n x) b tn e ∧ Below B w (w5.setCell ⟨s, 2, none⟩ (.int .i64 tn)) := by
    have hgr := grown_set w5 ⟨s, 2, none⟩ (.int .i64 tn)
    refine ⟨⟨hsp5.mem.grown hgr (fun e => hsp5.sg (by injection e with e; exact e.symm)) (.inr hsp5.sv), hsp5.blk.set 2 _, hsp5.sg, hsp5.sv, hsp5.hs, HX.out.2.1, HX.out.2.2, hsp5.el⟩, HB5.out.setCell (p := ⟨s, 2, none⟩) hsp5.hs _⟩
  have HFin := Lib.hid hfin
  clear hfin hsp5 hg5 HSP4
  go_wp2_with fail
  go_ret2
  exact ⟨rfl, HFin.out.1, HFin.out.2, HT5.out⟩
end Go.Proofs.Ytkkjnahjmomjgaa
/- What loamlaw15.known answers: true. No conditions. -/
namespace Go.Proofs.Ytkkjnahjmomjgaa
set_option linter.unusedVariables false
set_option linter.unusedSimpArgs false
open Go.RowKit
def kW0 : List (BitVec 64) := List.replicate 20 0#64
def kW1 : List (BitVec 64) := allocW kW0 2 3 (packH 2 0 false 0)
def kW2 : List (BitVec 64) := allocW kW1 5 3 (packH 0 9 false 0)
set_option maxRecDepth 100000
set_option maxHeartbeats 400000
end Go.Proofs.Ytkkjnahjmomjgaa
/- loamref14's Objects; loamlaw15's Mem, ints. Conditions: lengths. -/
namespace Go.Proofs.Ytkkjnahjmomjgaa
set_option linter.unusedVariables false
set_option linter.unusedSimpArgs false
open Go.RowKit
/-- Block R holds the document's space of the words ws. -/
structure RefAt (W : World) (R : Nat) (A : Option Addr) (c : Nat) (ws : List (BitVec 64)) (b t e : Nat) : Prop where
  blk : Bk W R 165 #[.slice A ws.length c, .int .i64 b, .int .i64 t, .int .i64 e]
  rd : Rd u64v W W.heap.size A ws
theorem RefAt.below {W W' : World} {R : Nat} {A : Option Addr} {c : Nat} {ws : List (BitVec 64)} {b t e : Nat} (h : RefAt W R A c ws b t e) (hb : Below W.heap.size W W') : RefAt W' R A c ws b t e := ⟨h.blk.below hb h.blk.lt, (h.rd.below hb).more hb.size⟩
theorem RefAt.four {W : World} {R : Nat} {A : Option Addr} {c : Nat} {ws : List (BitVec 64)} {b t e : Nat} (h : RefAt W R A c ws b t e) : W.cell? ⟨R, 0, none⟩ = some (.slice A ws.length c) ∧ W.cell? ⟨R, 1, none⟩ = some (.int .i64 b) ∧ W.cell? ⟨R, 2, none⟩ = some (.int .i64 t) ∧ W.cell? ⟨R, 3, none⟩ = some (.int .i64 e) := ⟨h.blk.cell 0, h.blk.cell 1, h.blk.cell 2, h.blk.cell 3⟩
set_option maxHeartbeats 400000
set_option maxRecDepth 100000
def RObjP (r : Option (List Nat)) (w : World) (e : Ending) (w' : World) : Prop := match r with
  | some l => ∃ A c, e = .returned (.tuple #[.slice A l.length c, .bool true]) ∧ l.length ≤ c ∧ Ow iN 3 w' w.heap.size (.slice A l.length c) l ∧ Below w.heap.size w w'
  | none => RetP (.tuple #[.slice none 0 0, .bool false]) w e w'
end Go.Proofs.Ytkkjnahjmomjgaa
/- space: Of; loamlaw15's Mem, ints, Same. Conditions: lengths. -/
namespace Go.Proofs.Ytkkjnahjmomjgaa
set_option linter.unusedVariables false
set_option linter.unusedSimpArgs false
open Go.RowKit
set_option maxHeartbeats 400000
set_option maxRecDepth 100000
theorem sof_out (w : World) (m : Value) (b t e : Int) (hb : Calls Try.prog 59 #[m, .int .i64 b, .int .i64 t, .int .i64 e] w fun r w' => r = .returned (.tuple #[.pointer none, .int .i64 1]) ∧ w' = w) :
    Calls Try.prog 75 #[m, .int .i64 b, .int .i64 t, .int .i64 e] w fun r w' => r = .returned (.tuple #[.pointer none, .int .i64 1]) ∧ w' = w := by
  have HB := Lib.hid hb
  clear hb
  go_enter Try.func75, Try.ntmps75
  go_wp2_with fail
  refine Calls.mono HB.out ?_
  rintro r w1 ⟨rfl, rfl⟩
  go_wp2_with fail
  go_ret2
  exact ⟨rfl, rfl⟩
theorem sof_none (w : World) (B g : Nat) (v : Value) (ws : List (BitVec 64)) (b t e : Nat) (h : MemAt w B g v ws) (hbt : b ≤ t) (hte : t ≤ e) (hel : e ≤ ws.length) (hl : ws.length ≤ 100000) (ho : objF ws t (t + 1) b = none) :
    Calls Try.prog 75 #[.pointer (some ⟨g, 0, none⟩), .int .i64 b, .int .i64 t, .int .i64 e] w (RetP (.tuple #[.pointer none, .int .i64 2]) w) := by
  have HB := Lib.hid (bare_in w B g v ws b t e h hbt hte hel hl)
  have HO := Lib.hid (fun W s (p : SpAt W B s g v ws b t e) => objects_c W B s g v ws b t e p hl)
  rw [ho] at HO
  clear h hbt hte hel hl ho
  go_enter Try.func75, Try.ntmps75
  go_wp2_with fail
  refine Calls.mono HB.out ?_
  rintro r w1 ⟨s, rfl, h1, b1⟩
  have H1 := Lib.hid (And.intro h1 b1)
  clear h1 b1
  go_wp2_with fail
  refine Calls.mono (HO.out w1 s H1.out.1) ?_
  rintro r w2 ⟨rfl, b2⟩
  have H2 := Lib.hid (H1.out.2.trans (b2.mono H1.out.2.size))
  clear b2
  go_wp2_with fail
  go_ret2
  exact ⟨rfl, H2.out⟩
theorem sof_some (w : World) (B g : Nat) (v : Value) (ws : List (BitVec 64)) (b t e : Nat) (h : MemAt w B g v ws) (hbt : b ≤ t) (hte : t ≤ e) (hel : e ≤ ws.length) (hl : ws.length ≤ 100000) (l : List Nat) (ho : objF ws t (t + 1) b = some l) :
    Calls Try.prog 75 #[.pointer (some ⟨g, 0, none⟩), .int .i64 b, .int .i64 t, .int .i64 e] w fun r w' => ∃ s, r = .returned (.tuple #[.pointer (some ⟨s, 0, none⟩), .int .i64 0]) ∧ SpAt w' B s g v ws b t e ∧ Below w.heap.size w w' := by
  have HB := Lib.hid (bare_in w B g v ws b t e h hbt hte hel hl)
  have HO := Lib.hid (fun W s (p : SpAt W B s g v ws b t e) => objects_c W B s g v ws b t e p hl)
  rw [ho] at HO
  clear h hbt hte hel hl ho
  go_enter Try.func75, Try.ntmps75
  go_wp2_with fail
  refine Calls.mono HB.out ?_
  rintro r w1 ⟨s, rfl, h1, b1⟩
  have H1 := Lib.hid (And.intro h1 b1)
  clear h1 b1
  go_wp2_with fail
  refine Calls.mono (HO.out w1 s H1.out.1) ?_
  rintro r w2 ⟨A2, c2, rfl, _, _, b2⟩
  have H2 := Lib.hid (And.intro (H1.out.1.below b2) (H1.out.2.trans (b2.mono H1.out.2.size)))
  clear b2
  go_wp2_with fail
  go_ret2
  exact ⟨s, rfl, H2.out.1, H2.out.2⟩
end Go.Proofs.Ytkkjnahjmomjgaa
