/- Names: compared; loaded, stored, copied as whole rows; (table.Name).String. No conditions. -/
import Derived.Test.YtdfhdgdhhgabbaaNmX
import Derived.Test.YtdfhdgdhhgabbaaRegT
import Derived.Lib.BytesEntry
import Derived.Lib.BufferWrite
import Derived.Laws.Rows
import Derived.Laws.Tables
import Derived.OwnWalk
namespace Go.Proofs.Ytdfhdgdhhgabbaa
set_option linter.unusedVariables false
set_option linter.unusedSimpArgs false
open Go.RowKit Go.Maps
set_option maxRecDepth 100000
set_option maxHeartbeats 400000
theorem litB_inj {x y : BitVec 8} (h : litB x = litB y) : x = y := by unfold litB at h; injection h with _ h; exact U8_inj h
theorem map_lit_inj : ∀ {k q : Nm}, k.map litB = q.map litB → k = q
  | [], [], _ => rfl
  | [], _ :: _, h => by cases h
  | _ :: _, [], h => by cases h
  | x :: k, y :: q, h => by
    simp only [List.map_cons, List.cons.injEq] at h
    rw [litB_inj h.1, map_lit_inj h.2]
theorem formedN {k : Nm} (h : nW k) : (nV k).formed Try.prog 24 = true := by
  unfold nV Value.formed
  rw [Try.underlying24]
  simp only [cells32]
  have : (nC k).size = 32 := by unfold nC; simp; exact h
  simp [this]
theorem eqN (k q : Nm) (hk : nW k) (hq : nW q) (W : World) : (Op.equalIn 10000 24 (.agg (nC k)) (.agg (nC q))).run Try.prog W = .ok (decide (k = q)) W := by
  obtain ⟨r, hr, hiff⟩ := run_equalIn_deep (P := Try.prog) 9998 2 24 (by kernel_rfl) W 2 2 (nV k) (nV q) (k.map litB) (q.map litB) (formedN hk) (formedN hq)
    (by rw [show (nV k).cells.toList = k.map b8 from by unfold nV nC Value.cells; simp]; exact lits_nm 0 k hk) (by rw [show (nV q).cells.toList = q.map b8 from by unfold nV nC Value.cells; simp]; exact lits_nm 0 q hq)
  have e : r = decide (k = q) := by
    rw [Bool.eq_iff_iff, hiff, decide_eq_true_eq]
    exact ⟨map_lit_inj, fun e => by rw [e]⟩
  rw [← e]
  exact hr
def zN : Nm := List.replicate 32 0#8
theorem zN_w : nW zN := List.length_replicate ..
theorem nC_size {k : Nm} (h : nW k) : (nC k).size = 32 := by unfold nC; simp; exact h
theorem nC_one (k : Nm) : (nC k).all (·.oneCell') = true := by
  unfold nC
  simp [b8_one]
theorem zeroN (W : World) : (zeroValue 24).run Try.prog W = .ok (.agg (nC zN)) W := by
  have e : nC zN = Array.replicate 32 (.int .u8 0) := by
    unfold nC zN
    apply Array.ext'
    simp [b8, U8]
  have h : (zeroValue 24).run Try.prog W = .ok (.agg (Array.replicate 32 (.int .u8 0))) W := by kernel_rfl
  rw [e]; exact h
theorem nrd {w : World} {g B : Nat} {E : TypeId} {k : Nm} (h : Bk w g E (nC k)) (hB : g < B) : Rd b8 w B (some ⟨g, 0, none⟩) k := h.rd rfl hB
theorem setRow_below {w : World} {B g : Nat} (hB : B ≤ g) (cs : Array Value) : Below B w (w.setRow g cs) :=
  ⟨rfl, rfl, rfl, by simp, fun k hk => setRow_other w g k cs (by omega)⟩
section
variable {ops : Array Oper} {rest : List Oper} {o : Oper} {a : Act} {w : World} {Q : Exit → Act → World → Prop}
theorem wp_loadN (hg : o.guard = none) (x : Operand) (ho : o.op = .load 24 x) (g : Nat) (hx : a.eval x = .pointer (some ⟨g, 0, none⟩)) (E : TypeId) (cs : Array Value) (hb : Bk w g E cs) (hs : cs.size = 32)
    (h : wpList Try.prog ops Q rest (a.put o.dst (.agg cs)) w) : wpList Try.prog ops Q (o :: rest) a w :=
  wpList_load_row hg 24 x ho g hx E cs (0, 0) _ hb Try.underlying24 rfl (by rw [hs]; kernel_rfl) h
/-- .. at an operation whose guard holds. -/
theorem wp_loadG (hw : Region.wanted o (yielded ops a.tmps) = true) (x : Operand) (ho : o.op = .load 24 x) (g : Nat) (hx : a.eval x = .pointer (some ⟨g, 0, none⟩)) (E : TypeId) (cs : Array Value) (hb : Bk w g E cs) (hs : cs.size = 32)
    (h : wpList Try.prog ops Q rest (a.put o.dst (.agg cs)) w) : wpList Try.prog ops Q (o :: rest) a w :=
  wpList_step fun _ hK => by
    rw [if_pos hw]
    exact wp_load_row 24 x ho g hx E cs (0, 0) _ hb Try.underlying24 rfl (by rw [hs]; kernel_rfl) (hK _ _ h)
theorem wp_storeN (hg : o.guard = none) (x y : Operand) (ho : o.op = .store 24 x y) (g : Nat) (cs : Array Value) (hx : a.eval x = .pointer (some ⟨g, 0, none⟩)) (hy : a.eval y = .agg cs) (E : TypeId) (old : Array Value) (hb : Bk w g E old)
    (hs : cs.size = 32) (hold : old.size = 32) (h1 : cs.all (·.oneCell') = true)
    (h : ∀ w', Bk w' g E cs → (∀ B, B ≤ g → Below B w w') → (∀ k, k ≠ g → w'.heap[k]? = w.heap[k]?) → wpList Try.prog ops Q rest (a.put o.dst undef) w') : wpList Try.prog ops Q (o :: rest) a w :=
  wpList_store_row hg 24 x y ho g cs hx hy E old hb (by rw [hs]; kernel_rfl) (by rw [hs, hold]) h1
    (h _ (setRow_heap w g old cs E (0, 0) hb) (fun B hB => setRow_below hB cs) (fun k hk => setRow_other w g k cs hk))
theorem wp_copyN (hg : o.guard = none) (d x : Operand) (hop : o.op = Op.call { callee := Callee.builtin Builtin.copy, args := #[d, x], argTypes := #[52, 9] })
    (g : Nat) (hd : a.eval d = .slice (some ⟨g, 0, none⟩) 32 32) (s : ByteArray) (hx : a.eval x = .string s) (E : TypeId) (cur : Array Value) (hb : Bk w g E cur) (hs : cur.size = 32) (hle : s.size ≤ 32)
    (h : ∀ w', Bk w' g E (Lib.byteCells s.data.toList ++ cur.toList.drop s.size).toArray → (∀ B, B ≤ g → Below B w w') → (∀ k, k ≠ g → w'.heap[k]? = w.heap[k]?) → wpList Try.prog ops Q rest (a.put o.dst (.int .i64 s.size)) w') : wpList Try.prog ops Q (o :: rest) a w := by
  refine wpList_plain hg fun K' hK' => ?_
  have hrun := Lib.run_copy_row_string (P := Try.prog) w 52 9 o.type 5 g 0 32 32 s cur E Try.underlying52 (by kernel_rfl) hb hle (by omega)
  unfold Oper.wp execOp
  simp only [hop, resolve, invoke, builtin, Sem.run_bind, Sem.run_pure, Result.andThen_ok, List.map_toArray, List.map_cons, List.map_nil, hd, hx, hrun]
  have e : ((cur.toList.take 0 ++ Lib.byteCells s.data.toList ++ cur.toList.drop (0 + s.size)).toArray) = (Lib.byteCells s.data.toList ++ cur.toList.drop s.size).toArray := by simp
  rw [e]
  exact hK' _ _ (h _ (setRow_heap w g cur _ E (0, 0) hb) (fun B hB => setRow_below hB _) (fun k hk => setRow_other w g k _ hk))
end
/-- The bytes ahead of the first 0. -/
def cutN (k : Nm) : Nm := k.takeWhile fun x => decide (x ≠ 0#8)
theorem cut_len : ∀ k : Nm, (cutN k).length ≤ k.length
  | [] => Nat.le_refl _
  | x :: k => by
    have := cut_len k
    unfold cutN at this ⊢
    rw [List.takeWhile_cons]
    split
    · rw [List.length_cons, List.length_cons]; omega
    · simp
theorem cut_take : ∀ k : Nm, k.take (cutN k).length = cutN k
  | [] => rfl
  | x :: k => by
    have ih := cut_take k
    unfold cutN at ih ⊢
    rw [List.takeWhile_cons]
    split
    · rw [List.length_cons, List.take_succ_cons, ih]
    · rfl
theorem idx_z : ∀ k : Nm, Lib.indexByte (Lib.bytesOf (k.map U8)) 0 = if (cutN k).length < k.length then ((cutN k).length : Int) else -1
  | [] => rfl
  | x :: k => by
    have ih := idx_z k
    show (if (UInt8.ofNat (U8 x).toNat == 0) = true then (0 : Int) else if (Lib.indexByte (Lib.bytesOf (k.map U8)) 0 == -1) = true then -1 else Lib.indexByte (Lib.bytesOf (k.map U8)) 0 + 1) = _
    by_cases hx : x = 0#8
    · subst hx
      have e : cutN (0#8 :: k) = [] := by unfold cutN; rw [List.takeWhile_cons]; simp
      rw [e, if_pos (by decide)]
      simp
    · have e : cutN (x :: k) = x :: cutN k := by unfold cutN; rw [List.takeWhile_cons]; simp [hx]
      have hb : (UInt8.ofNat (U8 x).toNat == 0) = false := by
        rw [beq_eq_false_iff_ne]
        intro h
        apply hx
        have h2 := congrArg UInt8.toNat h
        have hl := x.isLt
        have h3 : (U8 x).toNat = x.toNat := by unfold U8; omega
        rw [h3] at h2
        apply BitVec.eq_of_toNat_eq
        simp at h2 ⊢
        omega
      rw [hb, ih, e]
      have := cut_len k
      simp only [Bool.false_eq_true, if_false, List.length_cons]
      by_cases h : (cutN k).length < k.length
      · have e1 : ((((cutN k).length : Nat) : Int) == -1) = false := by rw [beq_eq_false_iff_ne]; omega
        rw [if_pos h, e1, if_neg (by decide), if_pos (show (cutN k).length + 1 < k.length + 1 by omega)]
        omega
      · rw [if_neg h, if_pos (show ((-1 : Int) == -1) = true by decide), if_neg (show ¬ (cutN k).length + 1 < k.length + 1 by omega)]
theorem ibyte_c (w : World) (g : Nat) (E : TypeId) (k : Nm) (hb : Bk w g E (nC k)) (hk : nW k) : Calls Try.prog 31 #[.slice (some ⟨g, 0, none⟩) 32 32, .int .u8 0] w fun e w' => e = .returned (.int .i64 (if (cutN k).length < 32 then ((cutN k).length : Int) else -1)) ∧ w' = w := by
  have hx : (k.map U8).length = 32 := by rw [List.length_map]; exact hk
  have hc : ∀ i, i < 32 → w.cell? ⟨g, 0 + i, none⟩ = some (.int .u8 ((k.map U8).getD i 0)) := fun i hi => by
    have hi' : i < k.length := by rw [hk]; exact hi
    rw [Nat.zero_add, hb.cell, nC, List.getElem?_toArray, List.getElem?_map, List.getElem?_eq_getElem hi', List.getD_eq_getElem?_getD, List.getElem?_map, List.getElem?_eq_getElem hi']
    rfl
  have hz := idx_z k
  rw [hk] at hz
  rw [← hz]
  have HX := Lib.hid (Lib.run_indexByteSlice (P := Try.prog) (w := w) g 0 32 32 (k.map U8) hx hc 0)
  clear hx hc hb hk hz
  go_enter Try.func31, Try.ntmps31
  go_wp2
  rw [run_callFunc_extern Try.func40 (by kernel_rfl) (by kernel_rfl) (by kernel_rfl) (e := Extern.BytealgIndexByte.indexByte) (by kernel_rfl), HX.out]
  simp only [Result.andThen]
  rw [Oper.upon_value]
  go_wp2
  go_ret
  exact ⟨rfl, rfl⟩
theorem index0_c (w : World) (g q : Nat) (E F : TypeId) (k : Nm) (hb : Bk w g E (nC k)) (hk : nW k) (hq : Bk w q F #[.int .u8 0]) : Calls Try.prog 25 #[.slice (some ⟨g, 0, none⟩) 32 32, .slice (some ⟨q, 0, none⟩) 1 1] w fun e w' => e = .returned (.int .i64 (if (cutN k).length < 32 then ((cutN k).length : Int) else -1)) ∧ w' = w := by
  have HC := Lib.hid (ibyte_c w g E k hb hk)
  obtain ⟨ix, hix⟩ : ∃ ix, ix = (if (cutN k).length < 32 then ((cutN k).length : Int) else -1) := ⟨_, rfl⟩
  rw [← hix] at HC ⊢
  clear hix
  have c0 := hq.cell 0
  clear hb hk hq
  go_enter Try.func25, Try.ntmps25
  go_wp2_with fail
  refine Calls.mono HC.out ?_
  rintro e w' ⟨rfl, rfl⟩
  go_wp2_with fail
  go_ret
  exact ⟨rfl, rfl⟩
theorem cut_reg (Q : Exit → Act → World → Prop) (a0 : Act) (w : World) (A B : Option Addr) (i j : Nat) (hi : i ≤ 32) (hj : Hid ((i : Int) + 1 = (j : Int))) (hj2 : j ≤ 32) (hsz : a0.tmps.size = 23) (sl0 : a0.tmps.getD 0 undef = .slice A 32 32) (sl1 : a0.tmps.getD 1 undef = .slice B 1 1) (sl7 : a0.tmps.getD 7 undef = .int .i64 (i : Int))
    (fin : ∀ (vals : Nat → Value) (w1 : World), Below w.heap.size w w1 → (IsV (.slice A i 32)) (vals 9) w1 → (IsV (.slice (cutA A 32 j) (32 - j) (32 - j))) (vals 10) w1 → (IsV (Go.Value.bool true)) (vals 11) w1 → Q .normal (putD vals [13, 14, 15, 16, 17, 18, 19, 20, 21, 4, 5, 6] 0 a0) w1) :
    (Code.region 3 (regIn Try.f20 3) true).wp Try.prog Q a0 w := by
  refine region_by (G := fun w w1 => Below w.heap.size w w1) [IsV (.slice A 32 32),
    IsV (.int .i64 (i : Int)),
    IsV (.slice A i 32),
    IsV (.slice A 32 32),
    IsV (.int .i64 (i : Int)),
    IsV (.slice B 1 1),
    IsV (.int .i64 1),
    IsV (.int .i64 (j : Int)),
    IsV (.slice (cutA A 32 j) (32 - j) (32 - j)),
    IsV (.slice A i 32),
    IsV (.slice (cutA A 32 j) (32 - j) (32 - j)),
    IsV (Go.Value.bool true)]
    [13, 14, 15, 16, 17, 18, 19, 20, 21, 4, 5, 6] (by kernel_rfl) (Gw.drew _) Gw.trans (by rw [hsz]; kernel_rfl) (by kernel_rfl) ?_ ?_ ?_
  · intro f hf
    simp only [List.mem_cons, List.not_mem_nil, or_false] at hf
    rcases hf with rfl | rfl | rfl | rfl | rfl | rfl | rfl | rfl | rfl | rfl | rfl | rfl <;> intro v a b h g <;> first | exact IsV.mono h
  · refine ⟨?_, ?_, ?_, ?_, ?_, ?_, ?_, ?_, ?_, ?_, ?_, ?_, trivial⟩
    · exact owes_mv 0 (by kernel_rfl) (by kernel_rfl) (by kernel_rfl) sl0 (fun _ => rfl)
    · exact owes_mv 7 (by kernel_rfl) (by kernel_rfl) (by kernel_rfl) sl7 (fun _ => rfl)
    · refine owes_v (Go.Op.slice 52 (Go.Operand.tmp 13) none (some (Go.Operand.tmp 14)) none) 52 [0, 1] (by kernel_rfl) (by kernel_rfl) (by kernel_rfl) rfl fun vals w1 ρ hG hF hρ hcst hfun => ?_
      have e13 : ρ (.tmp 13) = .slice A 32 32 := ((hρ 13).trans (slotJ [0, 1] (by rw [hsz]; decide) (by kernel_rfl))).trans (hF 0 (by decide))
      have e14 : ρ (.tmp 14) = .int .i64 (i : Int) := ((hρ 14).trans (slotJ [0, 1] (by rw [hsz]; decide) (by kernel_rfl))).trans (hF 1 (by decide))
      have p1 : (0 : Int) ≤ (i : Int) := by omega
      have p2 : (i : Int) ≤ (32 : Int) := by omega
      clear hρ hF hcst hfun sl0 sl1 sl7 fin
      exact opv_val (by go_simp <;> rfl) ⟨gw_self _, rfl⟩
    · exact owes_mv 0 (by kernel_rfl) (by kernel_rfl) (by kernel_rfl) sl0 (fun _ => rfl)
    · exact owes_mv 7 (by kernel_rfl) (by kernel_rfl) (by kernel_rfl) sl7 (fun _ => rfl)
    · exact owes_mv 1 (by kernel_rfl) (by kernel_rfl) (by kernel_rfl) sl1 (fun _ => rfl)
    · refine owes_v (Go.Op.call { callee := Go.Callee.builtin Go.Builtin.len, args := #[Go.Operand.tmp 18], argTypes := #[52] }) 3 [5] (by kernel_rfl) (by kernel_rfl) (by kernel_rfl) rfl fun vals w1 ρ hG hF hρ hcst hfun => ?_
      have e18 : ρ (.tmp 18) = .slice B 1 1 := ((hρ 18).trans (slotJ [5] (by rw [hsz]; decide) (by kernel_rfl))).trans (hF 5 (by decide))
      clear hρ hF hcst hfun sl0 sl1 sl7 fin
      exact opv_val (by go_simp <;> rfl) ⟨gw_self _, rfl⟩
    · refine owes_v (Go.Op.binOp Go.BinOp.add 3 (Go.Operand.tmp 17) (Go.Operand.tmp 19) 3) 3 [4, 6] (by kernel_rfl) (by kernel_rfl) (by kernel_rfl) rfl fun vals w1 ρ hG hF hρ hcst hfun => ?_
      have e17 : ρ (.tmp 17) = .int .i64 (i : Int) := ((hρ 17).trans (slotJ [4, 6] (by rw [hsz]; decide) (by kernel_rfl))).trans (hF 4 (by decide))
      have e19 : ρ (.tmp 19) = .int .i64 1 := ((hρ 19).trans (slotJ [4, 6] (by rw [hsz]; decide) (by kernel_rfl))).trans (hF 6 (by decide))
      have k : IntKind.i64.wrap ((i : Int) + 1) = (j : Int) := by rw [hj.out]; exact wrapIn (by omega) (by omega)
      clear hρ hF hcst hfun sl0 sl1 sl7 fin
      exact opv_val (by go_simp <;> rfl) ⟨gw_self _, rfl⟩
    · refine owes_v (Go.Op.slice 52 (Go.Operand.tmp 16) (some (Go.Operand.tmp 20)) none none) 52 [3, 7] (by kernel_rfl) (by kernel_rfl) (by kernel_rfl) rfl fun vals w1 ρ hG hF hρ hcst hfun => ?_
      have e16 : ρ (.tmp 16) = .slice A 32 32 := ((hρ 16).trans (slotJ [3, 7] (by rw [hsz]; decide) (by kernel_rfl))).trans (hF 3 (by decide))
      have e20 : ρ (.tmp 20) = .int .i64 (j : Int) := ((hρ 20).trans (slotJ [3, 7] (by rw [hsz]; decide) (by kernel_rfl))).trans (hF 7 (by decide))
      have p1 : (0 : Int) ≤ (j : Int) := by omega
      have p2 : (j : Int) ≤ (32 : Int) := by omega
      have p3 := sliced_cut A j 32 32
      clear hρ hF hcst hfun sl0 sl1 sl7 fin
      exact opv_val (by go_simp <;> rfl) ⟨gw_self _, rfl⟩
    · exact owes_mvj 2 15 (by kernel_rfl) (by kernel_rfl) (by kernel_rfl) (by kernel_rfl) (by rw [hsz]; decide) (fun v w h => h)
    · exact owes_mvj 8 21 (by kernel_rfl) (by kernel_rfl) (by kernel_rfl) (by kernel_rfl) (by rw [hsz]; decide) (fun v w h => h)
    · refine owes_v (Go.Op.assign (Go.Operand.const (Go.Value.bool true))) 4 [] (by kernel_rfl) (by kernel_rfl) (by kernel_rfl) rfl fun vals w1 ρ hG hF hρ hcst hfun => ?_
      clear hρ hF hfun sl0 sl1 sl7 fin
      exact opv_val (by go_simp <;> rfl) ⟨gw_self _, rfl⟩
  · intro vals w1 hG hF
    exact fin vals w1 hG (hF 9 (by decide +kernel)) (hF 10 (by decide +kernel)) (hF 11 (by decide +kernel))
theorem cut0_c (w : World) (g q : Nat) (E F : TypeId) (k : Nm) (hb : Bk w g E (nC k)) (hk : nW k) (hq : Bk w q F #[.int .u8 0]) : Calls Try.prog 20 #[.slice (some ⟨g, 0, none⟩) 32 32, .slice (some ⟨q, 0, none⟩) 1 1] w fun e w' => ∃ v f, e = .returned (.tuple #[.slice (some ⟨g, 0, none⟩) (cutN k).length 32, v, .bool f]) ∧ Below w.heap.size w w' := by
  have HI := Lib.hid (index0_c w g q E F k hb hk hq)
  have hl := cut_len k
  rw [hk] at hl
  obtain ⟨n, hn⟩ : ∃ n, n = (cutN k).length := ⟨_, rfl⟩
  rw [← hn] at HI hl ⊢
  clear hn hb hk hq
  by_cases h : n < 32
  · rw [if_pos h] at HI
    have p1 : (0 : Int) ≤ (n : Int) := by omega
    go_enter Try.func20, Try.ntmps20
    go_wp2_with fail
    refine Calls.mono HI.out ?_
    rintro e w' ⟨rfl, rfl⟩
    go_wp2_with fail
    refine cut_reg _ _ _ (some ⟨g, 0, none⟩) (some ⟨q, 0, none⟩) n (n + 1) hl (Lib.hid (by omega)) (by omega) rfl rfl rfl rfl ?_
    intro vals w1 hG h4 h5 h6
    unfold IsV at h4 h5 h6
    simp only [putD, Act.put, List.setIfInBounds_toArray, List.set_cons_zero, List.set_cons_succ, h4, h5, h6]
    have HB := Lib.hid hG
    clear h4 h5 h6 hG
    go_wp2_with fail
    go_ret3
    exact ⟨_, _, rfl, HB.out⟩
  · have e : n = 32 := by omega
    subst e
    rw [if_neg h] at HI
    clear h hl
    go_enter Try.func20, Try.ntmps20
    go_wp2_with fail
    refine Calls.mono HI.out ?_
    rintro e w' ⟨rfl, rfl⟩
    go_wp2_with fail
    go_ret3
    exact ⟨_, _, rfl, Below.refl _ _⟩
theorem string_c (w : World) (k : Nm) (hk : nW k) : Calls Try.prog 10 #[nV k] w (RetP (.string (strB (cutN k))) w) := by
  have HS := Lib.hid (nC_size hk)
  have HK := Lib.hid hk
  obtain ⟨arr, harr⟩ : ∃ arr, arr = nC k := ⟨_, rfl⟩
  have HA := Lib.hid harr
  unfold nV
  rw [← harr]
  rw [← harr] at HS
  have HB := Lib.hid (Bk.new w 24 arr)
  have HW := Lib.hid (Gw.alloc w (.cells arr 24))
  clear harr hk
  go_enter Try.func10, Try.ntmps10
  go_wp2_with fail
  refine Calls.mono (cut0_c _ w.heap.size (w.heap.size + 1) 24 5 k (by rw [← HA.out]; exact HB.out.alloc _) HK.out (by have q := Bk.new (w.alloc (.cells arr 24)) 5 #[.int .u8 0]; simpa using q)) ?_
  rintro e w1 ⟨v, f, rfl, b1⟩
  have hrd : Rd b8 w1 w1.heap.size (some ⟨w.heap.size, 0, none⟩) (cutN k) := by
    have q := nrd (k := k) (by rw [← HA.out]; exact (HB.out.alloc _).below b1 (HB.out.alloc _).lt) (Nat.lt_of_lt_of_le (HB.out.alloc (.cells #[.int .u8 0] 5)).lt b1.size)
    have := q.take (cutN k).length
    rwa [cut_take] at this
  have kc := str_conv (cutN k) (some ⟨w.heap.size, 0, none⟩) 32 _ w1 hrd
  have HF := Lib.hid (show Below w.heap.size w w1 from (HW.out.trans ((Gw.alloc _ _).mono (by simp))).trans (b1.mono (by simp; omega)))
  clear b1 hrd
  go_wp2_with fail
  go_ret
  exact ⟨rfl, HF.out⟩
end Go.Proofs.Ytdfhdgdhhgabbaa
