/- slices.SortedFunc of one name; Roots of a table of one name. No conditions but that. -/
import Derived.Test.YtdfhdgdhhgabbaaNmI
import Derived.Test.YtdfhdgdhhgabbaaNmF
namespace Go.Proofs.Ytdfhdgdhhgabbaa
set_option linter.unusedVariables false
set_option linter.unusedSimpArgs false
open Go.RowKit Go.Maps Go.Sort Go.Shelf
set_option maxHeartbeats 1000000
set_option maxRecDepth 100000
theorem mkeysN_c (mb : Option Nat) (w : World) : Calls Try.prog 23 #[.map mb] w fun e w' => e = .returned (.func (.func 29) #[] #[.pointer (some ⟨w.heap.size, 0, none⟩)]) ∧ w' = w.alloc (.cells #[.map mb] 32) := by
  go_enter Try.func23, Try.ntmps23
  go_wp2_with fail
  go_ret
  exact ⟨rfl, rfl⟩
/-- slices.SortedFunc of an iterator that gives one name. -/
theorem sorted1_c (g : Nat) (lb : Array Value) (eg : ∀ args w, (callFunc g args).run Try.prog w = .ok (.enter g args) w) (x : NW)
    (w : World) (hseq : SeqGives Fence.wide 4 Try.prog g lb nE (fun ss => (ss.map Subtype.val).Perm [x.1]) 1 w) (f : Value) :
    Calls Try.prog 22 #[.func (.func g) #[] lb, f] w fun e w' => ∃ A c, e = .returned (.slice A 1 c) ∧ NR w' w.heap.size (.slice A 1 c) [x] ∧ Below w.heap.size w w' := by
  have HC := Lib.hid ((callsIn_wide (n := 6)).1 (collectN_in Fence.wide 6 trivial trivial rfl (by omega) g lb trivial eg (fun ss => (ss.map Subtype.val).Perm [x.1]) 1 (by omega) w hseq))
  clear hseq
  go_enter Try.func22, Try.ntmps22
  go_wp2_with fail
  refine Calls.mono HC.out ?_
  rintro e w1 ⟨v, ss, rfl, hS, hrow, hb⟩
  obtain rfl : ss = [x] := by
    have h1 := hS.length_eq
    rw [List.length_map] at h1
    match ss, h1 with
    | [y], _ =>
      have h2 := List.perm_singleton.1 hS
      simp only [List.map_cons, List.map_nil, List.cons.injEq, and_true] at h2
      rw [Subtype.ext h2]
  obtain ⟨A, c, rfl, _, _⟩ := hrow.slice
  have HR := Lib.hid (And.intro hrow hb)
  clear hrow hb hS
  simp only [List.length_cons, List.length_nil, Nat.zero_add] at HR ⊢
  go_wp2_with fail
  refine Calls.mono (sort1_c _ A c f) ?_
  rintro e w2 ⟨rfl, rfl⟩
  go_wp2_with fail
  go_ret
  exact ⟨A, c, rfl, HR.out.1, HR.out.2⟩
theorem ldC {w : World} {ad : Addr} {k : Nm} (hk : nW k) (hc : ∀ j u, (k.map b8)[j]? = some u → w.cell? (ad.add j) = some u) : (loadVar 24 ad).run Try.prog w = .ok (.agg (nC k)) w := by
  have hl := run_loadCells_list (P := Try.prog) w ad (k.map b8) hc
  have hagg : (isAgg 24).run Try.prog w = .ok true w := by
    unfold isAgg
    rw [Sem.run_bind, run_underlying Try.underlying24 w]
    rfl
  obtain ⟨i0, hi, hz0, hz1, hz2⟩ := info_parts infoN
  rw [List.length_map, hk] at hl
  simp [loadVar, Sem.run_bind, hagg, sizeOf, typeInfo, hi, hz1, hl, nC]
theorem wp_loadC {ops : Array Oper} {rest : List Oper} {o : Oper} {a : Act} {w : World} {Q : Exit → Act → World → Prop} (hg : o.guard = none) (x : Operand) (ho : o.op = .load 24 x) (ad : Addr) (hx : a.eval x = .pointer (some ad)) (k : Nm) (hk : nW k) (hc : ∀ j u, (k.map b8)[j]? = some u → w.cell? (ad.add j) = some u)
    (h : wpList Try.prog ops Q rest (a.put o.dst (.agg (nC k))) w) : wpList Try.prog ops Q (o :: rest) a w := by
  refine wpList_plain hg fun K' hK' => ?_
  unfold Oper.wp execOp
  simp only [ho, hx, Instr.loadAt, Instr.sureAddr, Sem.run_bind, Sem.run_pure, Result.andThen_ok, ldC hk hc]
  exact hK' _ _ h
theorem NR.at0 {w : World} {base : Nat} {A : Option Addr} {c : Nat} {x : NW} (h : NR w base (.slice A 1 c) [x]) : ∃ q, A = some ⟨q, 0, none⟩ ∧ q < w.heap.size ∧ 1 ≤ c ∧ ∀ j u, (x.1.map b8)[j]? = some u → w.cell? ((⟨q, 0, none⟩ : Addr).add j) = some u := by
  rcases h.2 with ⟨_, h0⟩ | ⟨q, cap, cur, e, hq, hh, h1, h2, h3, h4⟩
  · cases h0
  · injection e with e1 e2 e3
    subst e1 e3
    refine ⟨q, rfl, (Array.getElem?_eq_some_iff.1 hh).1, h1, fun j u hu => ?_⟩
    have hj : j < 32 := by
      have := (List.getElem?_eq_some_iff.1 hu).1
      rw [List.length_map, x.2] at this
      exact this
    rw [add_offN, Nat.zero_add, cell_of_row w q j cur _ (0, 0) hh, ← Array.getElem?_toList]
    have h5 : (cur.toList.take (1 * 32))[j]? = (flatN [x])[j]? := by rw [← h4]; rfl
    rw [List.getElem?_take_of_lt (by omega)] at h5
    rw [h5]
    simpa [flatN] using hu
/-- A row of one root. -/
def RootV (B : Nat) (st : ByteArray) (z : Int) (v : Value) (w : World) : Prop := ∃ q c, v = .slice (some ⟨q, 0, none⟩) 1 c ∧ B ≤ q ∧ w.cell? ⟨q, 0, none⟩ = some (.string st) ∧ w.cell? ⟨q, 1, none⟩ = some (.int .i64 z) ∧ q < w.heap.size
theorem RootV.mono {B : Nat} {st : ByteArray} {z : Int} {v : Value} {a b : World} (h : RootV B st z v a) (g : Below a.heap.size a b) : RootV B st z v b := by
  obtain ⟨q, c, h1, h0, h2, h3, h4⟩ := h
  exact ⟨q, c, h1, h0, (g.cell (p := ⟨q, 0, none⟩) h4).trans h2, (g.cell (p := ⟨q, 1, none⟩) h4).trans h3, Nat.lt_of_lt_of_le h4 g.size⟩
def RootN (st : ByteArray) (z : Int) (v : Value) (w : World) : Prop := ∃ q, v = .slice (some ⟨q, 0, none⟩) 1 1 ∧ Bk w q 42 #[.string st, .int .i64 z]
theorem RootN.mono {st : ByteArray} {z : Int} {v : Value} {a b : World} (h : RootN st z v a) (g : Below a.heap.size a b) : RootN st z v b := by
  obtain ⟨q, h1, h2⟩ := h
  exact ⟨q, h1, h2.below g h2.lt⟩
theorem infoR : (Try.prog.info? 42).map (fun i => (i.zero, i.size, i.bytes)) = some (some (.agg #[.string ⟨#[]⟩, .int .i64 0]), 2, 24) := by kernel_rfl
theorem opv_app1 {B : Nat} {ρ : Operand → Value} {s x : Operand} {w : World} {ty : TypeId} {st : ByteArray} {z : Int} (hB : B ≤ w.heap.size) (hs : ρ s = .slice none 0 0) {v : Value} (hx : ρ x = v) (hn : RootN st z v w) :
    OpV Try.prog (.call { callee := Callee.builtin Builtin.append, args := #[s, x], argTypes := #[35, 35] }) ty ρ w (fun v w2 => Below w.heap.size w w2 ∧ RootV B st z v w2) := by
  obtain ⟨i0, hi, hz0, hz1, hz2⟩ := info_parts infoR
  obtain ⟨q, rfl, hb⟩ := hn
  obtain ⟨v', w', hrun, r1, r2, r3⟩ := run_append_own (P := Try.prog) w w.heap.size 35 ty 42 i0 (.agg #[.string ⟨#[]⟩, .int .i64 0]) 2 24 Try.underlying35 hi hz0 hz1 hz2 rfl (by decide) (.slice none 0 0) 0 [] ⟨rfl, .inl ⟨rfl, rfl⟩⟩ ⟨q, 0, none⟩ 1 1 [.string st, .int .i64 z] rfl
    (fun j u hu => by rw [add_offN, Nat.zero_add, hb.cell]; simpa using hu) (by simp [Value.oneCell']) (by unfold maxLen; omega) (by omega) (Nat.le_refl _)
  refine opv_val (v := v') (w1 := w') ?_ ⟨?_, ?_⟩
  · unfold execOp
    simp [resolve, invoke, builtin, hs, hx, hrun, Result.andThen]
  · exact (Below.refl _ w).grown r2 (Nat.le_refl _) (fun k e => by cases e)
  · rcases r1.2 with ⟨_, h0⟩ | ⟨q', cap, cur, e, hq, hh, h1, h2, h3, h4⟩
    · cases h0
    · have hl : ∀ j u, [Value.string st, .int .i64 z][j]? = some u → w'.cell? ⟨q', j, none⟩ = some u := fun j u hu => by
        have hj : j < 2 := (List.getElem?_eq_some_iff.1 hu).1
        rw [cell_of_row w' q' j cur _ (0, 0) hh, ← Array.getElem?_toList]
        have h5 : (cur.toList.take ((0 + 1) * 2))[j]? = ([] ++ [Value.string st, .int .i64 z])[j]? := by rw [h4]
        rw [List.getElem?_take_of_lt (by omega)] at h5
        rw [h5]
        simpa using hu
      exact ⟨q', cap, e, Nat.le_trans hB hq, hl 0 _ rfl, hl 1 _ rfl, (Array.getElem?_eq_some_iff.1 hh).1⟩
theorem of_retN {P : Program} {f : FuncId} {args : Array Value} {v : Value} {w : World} (h : Calls P f args w (RetP v w)) : Calls P f args w fun e w2 => ∃ u, e = .returned u ∧ Below w.heap.size w w2 ∧ IsV v u w2 :=
  h.mono fun _ _ h => ⟨_, h.1, h.2, rfl⟩
theorem ro_reg (Q : Exit → Act → World → Prop) (a0 : Act) (w : World) (B g q : Nat) (hB : B ≤ w.heap.size) (mb : Option Nat) (arr : Array Value) (z : Int) (st : ByteArray) (hs : arr.size = 32) (hg : Bk w g 34 #[.map mb]) (hq : Bk w q 24 arr) (HS : Hid (∀ W, Calls Try.prog 10 #[.agg arr] W (RetP (.string st) W))) (HL : Hid (∀ W, Below w.heap.size w W → (Instr.lookup 32 (.map mb) (.agg arr) false).run Try.prog W = .ok (.int .i64 z) W)) (hsz : a0.tmps.size = 31) (sl0 : a0.tmps.getD 0 undef = .pointer (some ⟨g, 0, none⟩)) (sl3 : a0.tmps.getD 3 undef = .slice none 0 0) (sl5 : a0.tmps.getD 5 undef = .pointer (some ⟨q, 0, none⟩))
    (fin : ∀ (vals : Nat → Value) (w1 : World), Below w.heap.size w w1 → (RootV B st z) (vals 12) w1 → Q .normal (putD vals [17, 18, 19, 20, 21, 22, 23, 24, 25, 26, 27, 28, 3] 0 a0) w1) :
    (Code.region 5 (regIn Try.f17 5) true).wp Try.prog Q a0 w := by
  refine region_by (G := fun w w1 => Below w.heap.size w w1) [IsV (.slice none 0 0),
    IsV (.agg arr),
    IsV (.string st),
    IsV (.pointer (some ⟨g, 0, none⟩)),
    IsV (.pointer (some ⟨g, 0, none⟩)),
    IsV (.pointer (some ⟨g, 0, none⟩)),
    IsV (.map mb),
    IsV (.agg arr),
    IsV (.int .i64 z),
    IsV (.agg #[.string st, .int .i64 z]),
    RootN st z,
    RootV B st z,
    RootV B st z]
    [17, 18, 19, 20, 21, 22, 23, 24, 25, 26, 27, 28, 3] (by kernel_rfl) (Gw.drew _) Gw.trans (by rw [hsz]; kernel_rfl) (by kernel_rfl) ?_ ?_ ?_
  · intro f hf
    simp only [List.mem_cons, List.not_mem_nil, or_false] at hf
    rcases hf with rfl | rfl | rfl | rfl | rfl | rfl | rfl | rfl | rfl | rfl | rfl | rfl | rfl <;> intro v a b h g <;> first | exact IsV.mono h | exact RootN.mono h g | exact RootV.mono h g
  · refine ⟨?_, ?_, ?_, ?_, ?_, ?_, ?_, ?_, ?_, ?_, ?_, ?_, ?_, trivial⟩
    · exact owes_mv 3 (by kernel_rfl) (by kernel_rfl) (by kernel_rfl) sl3 (fun _ => rfl)
    · refine owes_v (Go.Op.load 24 (Go.Operand.tmp 5)) 24 [] (by kernel_rfl) (by kernel_rfl) (by kernel_rfl) rfl fun vals w1 ρ hG hF hρ hcst hfun => ?_
      have e5 : ρ (.tmp 5) = .pointer (some ⟨q, 0, none⟩) := ((hρ 5).trans (slotO [] (by kernel_rfl))).trans sl5
      clear hρ hF hcst hfun sl0 sl3 sl5 fin
      exact opv_loadN e5 (hq.below hG hq.lt) hs
    · refine owes_v (Go.Op.call { callee := Go.Callee.value (Go.Operand.func 10), args := #[Go.Operand.tmp 18], argTypes := #[24] }) 9 [1] (by kernel_rfl) (by kernel_rfl) (by kernel_rfl) rfl fun vals w1 ρ hG hF hρ hcst hfun => ?_
      have e18 : ρ (.tmp 18) = .agg arr := ((hρ 18).trans (slotJ [1] (by rw [hsz]; decide) (by kernel_rfl))).trans (hF 1 (by decide))
      clear hρ hF hcst sl0 sl3 sl5 fin
      exact opv_enter (by go_simp <;> rfl) (of_retN (HS.out w1))
    · exact owes_mv 0 (by kernel_rfl) (by kernel_rfl) (by kernel_rfl) sl0 (fun _ => rfl)
    · refine owes_v (Go.Op.nilCheck (Go.Operand.tmp 20)) 0 [3] (by kernel_rfl) (by kernel_rfl) (by kernel_rfl) rfl fun vals w1 ρ hG hF hρ hcst hfun => ?_
      have e20 : ρ (.tmp 20) = .pointer (some ⟨g, 0, none⟩) := ((hρ 20).trans (slotJ [3] (by rw [hsz]; decide) (by kernel_rfl))).trans (hF 3 (by decide))
      clear hρ hF hcst hfun sl0 sl3 sl5 fin
      exact opv_val (by go_simp <;> rfl) ⟨gw_self _, rfl⟩
    · refine owes_v (Go.Op.fieldAddr 34 (Go.Operand.tmp 21) 0) 0 [4] (by kernel_rfl) (by kernel_rfl) (by kernel_rfl) rfl fun vals w1 ρ hG hF hρ hcst hfun => ?_
      have e21 : ρ (.tmp 21) = .pointer (some ⟨g, 0, none⟩) := ((hρ 21).trans (slotJ [4] (by rw [hsz]; decide) (by kernel_rfl))).trans (hF 4 (by decide))
      clear hρ hF hcst hfun sl0 sl3 sl5 fin
      exact opv_val (by go_simp <;> rfl) ⟨gw_self _, rfl⟩
    · refine owes_v (Go.Op.load 32 (Go.Operand.tmp 22)) 32 [5] (by kernel_rfl) (by kernel_rfl) (by kernel_rfl) rfl fun vals w1 ρ hG hF hρ hcst hfun => ?_
      have e22 : ρ (.tmp 22) = .pointer (some ⟨g, 0, none⟩) := ((hρ 22).trans (slotJ [5] (by rw [hsz]; decide) (by kernel_rfl))).trans (hF 5 (by decide))
      have k0 := (hg.below hG hg.lt).cell 0
      clear hρ hF hcst hfun sl0 sl3 sl5 fin
      exact opv_val (by go_simp <;> rfl) ⟨gw_self _, rfl⟩
    · refine owes_v (Go.Op.load 24 (Go.Operand.tmp 5)) 24 [] (by kernel_rfl) (by kernel_rfl) (by kernel_rfl) rfl fun vals w1 ρ hG hF hρ hcst hfun => ?_
      have e5 : ρ (.tmp 5) = .pointer (some ⟨q, 0, none⟩) := ((hρ 5).trans (slotO [] (by kernel_rfl))).trans sl5
      clear hρ hF hcst hfun sl0 sl3 sl5 fin
      exact opv_loadN e5 (hq.below hG hq.lt) hs
    · refine owes_v (Go.Op.lookup 32 (Go.Operand.tmp 23) (Go.Operand.tmp 24) false) 3 [6, 7] (by kernel_rfl) (by kernel_rfl) (by kernel_rfl) rfl fun vals w1 ρ hG hF hρ hcst hfun => ?_
      have e23 : ρ (.tmp 23) = .map mb := ((hρ 23).trans (slotJ [6, 7] (by rw [hsz]; decide) (by kernel_rfl))).trans (hF 6 (by decide))
      have e24 : ρ (.tmp 24) = .agg arr := ((hρ 24).trans (slotJ [6, 7] (by rw [hsz]; decide) (by kernel_rfl))).trans (hF 7 (by decide))
      have k1 := HL.out w1 hG
      clear hρ hF hcst hfun sl0 sl3 sl5 fin
      exact opv_val (by go_simp <;> rfl) ⟨gw_self _, rfl⟩
    · refine owes_v (Go.Op.build 42 #[(0, Go.Operand.tmp 19), (1, Go.Operand.tmp 25)]) 42 [2, 8] (by kernel_rfl) (by kernel_rfl) (by kernel_rfl) rfl fun vals w1 ρ hG hF hρ hcst hfun => ?_
      have e19 : ρ (.tmp 19) = .string st := ((hρ 19).trans (slotJ [2, 8] (by rw [hsz]; decide) (by kernel_rfl))).trans (hF 2 (by decide))
      have e25 : ρ (.tmp 25) = .int .i64 z := ((hρ 25).trans (slotJ [2, 8] (by rw [hsz]; decide) (by kernel_rfl))).trans (hF 8 (by decide))
      clear hρ hF hcst hfun sl0 sl3 sl5 fin
      exact opv_val (by go_simp <;> rfl) ⟨gw_self _, rfl⟩
    · refine owes_v (Go.Op.buildSlice 35 1 #[(0, Go.Operand.tmp 26)]) 35 [9] (by kernel_rfl) (by kernel_rfl) (by kernel_rfl) rfl fun vals w1 ρ hG hF hρ hcst hfun => ?_
      have e26 : ρ (.tmp 26) = .agg #[.string st, .int .i64 z] := ((hρ 26).trans (slotJ [9] (by rw [hsz]; decide) (by kernel_rfl))).trans (hF 9 (by decide))
      clear hρ hF hcst hfun sl0 sl3 sl5 fin
      exact opv_val (by go_simp <;> rfl) ⟨Gw.alloc _ _, ⟨_, rfl, Bk.new w1 _ _⟩⟩
    · refine owes_v (Go.Op.call { callee := Go.Callee.builtin Go.Builtin.append, args := #[Go.Operand.tmp 17, Go.Operand.tmp 27], argTypes := #[35, 35] }) 35 [0, 10] (by kernel_rfl) (by kernel_rfl) (by kernel_rfl) rfl fun vals w1 ρ hG hF hρ hcst hfun => ?_
      have e17 : ρ (.tmp 17) = .slice none 0 0 := ((hρ 17).trans (slotJ [0, 10] (by rw [hsz]; decide) (by kernel_rfl))).trans (hF 0 (by decide))
      have f27 : (RootN st z) (vals 10) w1 := hF 10 (by decide)
      have e27 : ρ (.tmp 27) = vals 10 := (hρ 27).trans (slotJ [0, 10] (by rw [hsz]; decide) (by kernel_rfl))
      clear hρ hF hcst hfun sl0 sl3 sl5 fin
      exact opv_app1 (Nat.le_trans hB hG.size) e17 e27 f27
    · refine owes_v (Go.Op.assign (Go.Operand.tmp 28)) 35 [11] (by kernel_rfl) (by kernel_rfl) (by kernel_rfl) rfl fun vals w1 ρ hG hF hρ hcst hfun => ?_
      have f28 : (RootV B st z) (vals 11) w1 := hF 11 (by decide)
      have e28 : ρ (.tmp 28) = vals 11 := (hρ 28).trans (slotJ [11] (by rw [hsz]; decide) (by kernel_rfl))
      clear hρ hF hcst hfun sl0 sl3 sl5 fin
      exact opv_val (by go_simp <;> rfl) ⟨gw_self _, e28 ▸ f28⟩
  · intro vals w1 hG hF
    exact fin vals w1 hG (hF 12 (by decide +kernel))
end Go.Proofs.Ytdfhdgdhhgabbaa
