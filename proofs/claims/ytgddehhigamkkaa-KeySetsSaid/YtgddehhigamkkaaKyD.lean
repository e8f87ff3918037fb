/- slices.Collect at keys that are structs: a new row of what the iterator gave. Conditions: lengths. -/
import Derived.Test.YtgddehhigamkkaaKyC
namespace Go.Proofs.Ytgddehhigamkkaa
set_option linter.unusedVariables false
set_option linter.unusedSimpArgs false
open Go.RowKit Go.Maps Go.Sort Go.Shelf
set_option maxRecDepth 100000
set_option maxHeartbeats 2000000
def apAssignK : Code := (Code.region 2 #[{ dst := some 5, op := Op.alloc 23, type := 0, pos := "iter.go:51", after := #[], guard := none }, { dst := none, op := Op.store 23 (Operand.tmp 5) (Operand.tmp 7), type := 0, pos := "iter.go:51", after := #[{ on := 0, ground := Ground.data }, { on := 0, ground := Ground.phase }], guard := none }] false)
def apBodyK : Code := (Code.block 1 (Code.region 3 #[{ dst := some 8, op := Op.load 39 (Operand.tmp 2), type := 39, pos := "iter.go:52", after := #[], guard := none }, { dst := some 9, op := Op.load 23 (Operand.tmp 5), type := 23, pos := "iter.go:52", after := #[], guard := none }, { dst := some 10, op := Op.buildSlice 39 1 #[(0, Operand.tmp 9)], type := 39, pos := "iter.go:52", after := #[{ on := 1, ground := Ground.data }], guard := none }, { dst := some 11, op := Op.call { callee := Callee.builtin Builtin.append, args := #[Operand.tmp 8, Operand.tmp 10], argTypes := #[39, 39] }, type := 39, pos := "iter.go:52", after := #[{ on := 0, ground := Ground.data }, { on := 2, ground := Ground.data }], guard := none }, { dst := none, op := Op.store 39 (Operand.tmp 2) (Operand.tmp 11), type := 0, pos := "iter.go:52", after := #[{ on := 3, ground := Ground.data }, { on := 3, ground := Ground.chain }, { on := 0, ground := Ground.phase }, { on := 1, ground := Ground.phase }, { on := 2, ground := Ground.phase }, { on := 3, ground := Ground.phase }], guard := none }] false))
def apRecK (fn : FuncId) (sv : Value) (Bs D : Nat) (st : LoopState) (pend : Option Code) : Loop :=
  { state := st, pending := pend, fn, tmps := #[.slice none 0 0, sv, .pointer (some ⟨Bs, 0, none⟩), undef, .slice none 0 0, undef, sv, undef, undef, undef, undef, undef, undef], params := #[7], assign := apAssignK, body := apBodyK, defers := D }
/-- Between two rounds: the box holds a row of what has come so far. -/
structure ApK (w0 : World) (fn : FuncId) (sv : Value) (Bs l D : Nat) (ss : List (Int × Int)) (W : World) : Prop where
  box : ∃ v, W.heap[Bs]? = some (.cells #[v] 39 (0, 0)) ∧ KR W w0.heap.size v ss
  L : W.heap[l]? = some (.loop (apRecK fn sv Bs D .ready none))
  K : W.heap[D]? = some (.deferred (some []))
  below : Below w0.heap.size w0 W
theorem apK_abides (w0 : World) (fn : FuncId) (sv : Value) (Bs l D B : Nat) (hB : w0.heap.size ≤ B) : AbidesFrom B (ApK w0 fn sv Bs l D) := fun s W W' row h hg hrow => by
  have hrow' : ∀ r, row = some r → ∃ o : Obj, W.heap[r]? = some o ∧ o.isWalk = true := fun r e => (hrow r e).2
  obtain ⟨v, hv, hr⟩ := h.box
  exact ⟨⟨v, (grownBy_keeps hg hrow' hv rfl).trans hv, ownsRow_abides_a hr hg hrow'⟩, (grownBy_keeps hg hrow' h.L rfl).trans h.L, (grownBy_keeps hg hrow' h.K rfl).trans h.K,
    h.below.grown hg h.below.size (fun k e => Nat.le_trans hB (hrow k e).1)⟩
theorem two_cells {w : World} {E : TypeId} {a b : Value} : ∀ j u, [a, b][j]? = some u → (w.alloc (.cells #[a, b] E)).cell? ((⟨w.heap.size, 0, none⟩ : Addr).add j) = some u := by
  intro j u hu
  rw [add_off, Nat.zero_add, (Bk.new w E #[a, b]).cell]
  simpa using hu
theorem apYieldK (F : Fence) (m : Nat) (w0 : World) (fn : FuncId) (hfn : F.fn fn) (sv : Value) (Bs l D : Nat) (hBl : Bs ≠ l) (hDl : D ≠ l) (hDB : D ≠ Bs) (h0B : w0.heap.size ≤ Bs) (h0l : w0.heap.size ≤ l)
    (N : Nat) (hN : N ≤ 100000) (ss : List (Int × Int)) (x : Int × Int) (W : World) (h : ApK w0 fn sv Bs l D ss W) (hlen : ss.length < N) :
    YieldAt F m Try.prog l #[kV x] W fun e W' => e = .returned (.bool true) ∧ ApK w0 fn sv Bs l D (ss ++ [x]) W' ∧ KeepsWalks W W' := by
  have hne : (39 : TypeId) ≠ 23 := by decide
  obtain ⟨i0, hi, hz0, hz1, hz2⟩ := info_parts infoK
  obtain ⟨v, hv, hrow⟩ := h.box
  refine ⟨fn, #[.slice none 0 0, sv, .pointer (some ⟨Bs, 0, none⟩), undef, .slice none 0 0, undef, sv, kV x, undef, undef, undef, undef, undef], apAssignK, apBodyK, by simpa [apRecK] using run_yield (P := Try.prog) (args := #[kV x]) h.L rfl, roundIn_of_wpIn hfn ?_⟩
  have hl : l < W.heap.size := (Array.getElem?_eq_some_iff.1 h.L).1
  have hBlt : Bs < W.heap.size := (Array.getElem?_eq_some_iff.1 hv).1
  have hDlt : D < W.heap.size := (Array.getElem?_eq_some_iff.1 h.K).1
  have ne_of : ∀ {j : Nat} {o : Obj}, W.heap[j]? = some o → (∀ cur, o ≠ .cells cur 23 (0, 0)) → some j ≠ v.ownBlock := fun hj hno => by
    rcases ownsRow_ne_a hrow hj hno with e | e
    · rw [e]; simp
    · exact fun e' => e e'.symm
  have nv : some Bs ≠ v.ownBlock := ne_of hv (fun cur e => by first | cases e | exact hne (Obj.cells.inj e).2.1)
  have nl : some l ≠ v.ownBlock := ne_of h.L (fun cur e => by cases e)
  have nk : some D ≠ v.ownBlock := ne_of h.K (fun cur e => by cases e)
  -- the variable's box
  obtain ⟨Wb, hWb⟩ : ∃ X, X = W.alloc (.cells #[.int .i64 x.1, .int .i64 x.2] 23) := ⟨_, rfl⟩
  have hszb : Wb.heap.size = W.heap.size + 1 := by rw [hWb]; simp
  have hvb : Wb.heap[Bs]? = some (.cells #[v] 39 (0, 0)) := by rw [hWb]; exact (Below.heap_alloc _ _ Bs hBlt).trans hv
  have hKb : Wb.heap[D]? = some (.deferred (some [])) := by rw [hWb]; exact (Below.heap_alloc _ _ D hDlt).trans h.K
  have hLb : Wb.heap[l]? = some (.loop (apRecK fn sv Bs D .ready none)) := by rw [hWb]; exact (Below.heap_alloc _ _ l hl).trans h.L
  have hrowb : Wb.ownsRow w0.heap.size 23 2 v ss.length (flatK ss) := by rw [hWb]; exact World.ownsRow.alloc hrow _
  have hbb : Below w0.heap.size w0 Wb := by rw [hWb]; exact h.below.alloc h.below.size _
  have hkb : KeepsWalks W Wb := by rw [hWb]; exact KeepsWalks.alloc _ _
  have hxb : Bk Wb W.heap.size 23 #[.int .i64 x.1, .int .i64 x.2] := by rw [hWb]; exact Bk.new _ _ _
  -- the round begins
  have hbr := run_beginRound (P := Try.prog) hLb rfl
  obtain ⟨W2, hW2⟩ : ∃ W2, Wb.putObj l (.loop { apRecK fn sv Bs D .ready none with state := .busy }) = W2 := ⟨_, rfl⟩
  rw [hW2] at hbr
  have hg2 : Wb.grownBy W2 (some l) := by rw [← hW2]; exact grownBy_putObj_a _ _ _
  have hsz2 : W2.heap.size = Wb.heap.size := by rw [← hW2]; simp [World.putObj]
  have hk2 : KeepsWalks W W2 := by rw [← hW2]; exact hkb.trans (KeepsWalks.putObj _ hLb rfl)
  have hv2 : W2.heap[Bs]? = some (.cells #[v] 39 (0, 0)) := by rw [← hW2]; exact (World.putObj_heap_other hBl).trans hvb
  have hK2 : W2.heap[D]? = some (.deferred (some [])) := by rw [← hW2]; exact (World.putObj_heap_other hDl).trans hKb
  have hL2 : W2.heap[l]? = some (.loop { apRecK fn sv Bs D .ready none with state := .busy }) := by rw [← hW2]; exact World.putObj_heap_same (by omega)
  have hrow2 : W2.ownsRow w0.heap.size 23 2 v ss.length (flatK ss) := World.ownsRow.kept hrowb hg2 (ownsRow_ne_a hrowb hLb (fun cur e => by cases e))
  have hb2 : Below w0.heap.size w0 W2 := hbb.grown hg2 hbb.size (fun k e => by cases e; exact h0l)
  have hx2 : Bk W2 W.heap.size 23 #[.int .i64 x.1, .int .i64 x.2] := (hg2.block _ hxb.lt (fun e => by injection e with e; omega)).trans hxb
  obtain ⟨hx0, hx1⟩ := hx2.two
  obtain ⟨hc2, hf2⟩ := cell_of_box_a hv2
  have HS := Lib.hid (And.intro hszb (And.intro hBlt (And.intro hl (And.intro hDlt hsz2))))
  have HL := Lib.hid (And.intro hL2 (And.intro hK2 hv2))
  have HR := Lib.hid (And.intro hrow2 (And.intro hb2 hk2))
  clear hg2 hb2 hrow2 hv2 hK2 hL2 hszb hBlt hl hDlt hsz2 hW2 hvb hKb hLb hrowb hbb hkb hxb hv hk2 hx2 hrow
  unfold apAssignK
  unfold kV
  gi_wp2_with gi_round_op_a
  rw [← hWb]
  refine ⟨W2, hbr, ?_⟩
  clear hWb hbr
  unfold apBodyK
  gi_wp2_with (first
    | (gi_at_builtin; refine wpListIn_append_own _ rfl _ _ 39 rfl w0.heap.size 23 i0 (.agg #[.int .i64 0, .int .i64 0]) 2 16 Try.underlying39 hi hz0 hz1 hz2 rfl (by decide) _ _ _ rfl (HR.out.1.alloc _) ⟨W2.heap.size, 0, none⟩ 1 1 [.int .i64 x.1, .int .i64 x.2] rfl rfl two_cells (by simp [Value.oneCell']) (by unfold maxLen; omega) (by omega) (by have := HR.out.2.1.size; simp; omega) ?_; intro v' w3 hown' hg3 hnil3
       have hv3 : w3.heap[Bs]? = some (.cells #[v] 39 (0, 0)) := (hg3.block Bs (by have := HS.out; simp; omega) nv).trans ((Below.heap_alloc _ _ Bs (by have := HS.out; omega)).trans HL.out.2.2)
       obtain ⟨hc3, hf3⟩ := cell_of_box_a hv3
       obtain ⟨g', cap', cur', rfl, hbase', hgb', hr1, hr2, hr3, hr4⟩ : ∃ g' cap' cur', v' = .slice (some ⟨g', 0, none⟩) (ss.length + 1) cap' ∧ w0.heap.size ≤ g' ∧ w3.heap[g']? = some (.cells cur' 23 (0, 0)) ∧ ss.length + 1 ≤ cap' ∧ cap' ≤ maxLen ∧ cur'.size = cap' * 2 ∧ cur'.toList.take ((ss.length + 1) * 2) = flatK ss ++ [.int .i64 x.1, .int .i64 x.2] := by
         rcases hown'.2 with ⟨_, h0⟩ | h'
         · exact absurd h0 (by omega)
         · exact h'
       go_frame)
    | gi_round_op_a)
  obtain ⟨hszb, hBlt, hl, hDlt, hsz2⟩ := HS.out
  obtain ⟨hL2, hK2, hv2⟩ := HL.out
  obtain ⟨hrow2, hb2, hk2⟩ := HR.out
  have hl2 : l < W2.heap.size := by omega
  have hDlt2 : D < W2.heap.size := by omega
  have hg3' : (W2.alloc (.cells #[.int .i64 x.1, .int .i64 x.2] 23)).grownBy w3 v.ownBlock := hg3
  have hL3 : w3.heap[l]? = some (.loop { apRecK fn sv Bs D .ready none with state := .busy }) := (hg3'.block l (by simp; omega) nl).trans ((Below.heap_alloc _ _ l hl2).trans hL2)
  have hK3 : w3.heap[D]? = some (.deferred (some [])) := (hg3'.block D (by simp; omega) nk).trans ((Below.heap_alloc _ _ D hDlt2).trans hK2)
  obtain ⟨w4, hw4⟩ : ∃ w4, w3.setCell ⟨Bs, 0, none⟩ (.slice (some ⟨g', 0, none⟩) (ss.length + 1) cap') = w4 := ⟨_, rfl⟩
  rw [hw4]
  have hg4 : w3.grownBy w4 (some Bs) := by rw [← hw4]; exact grownBy_setCell0_a _ _ _
  have hv4 : w4.heap[Bs]? = some (.cells #[.slice (some ⟨g', 0, none⟩) (ss.length + 1) cap'] 39 (0, 0)) := by rw [← hw4]; exact heap_setCell_box_a _ hv3
  have hL4 : w4.heap[l]? = some (.loop { apRecK fn sv Bs D .ready none with state := .busy }) := (hg4.block l (Array.getElem?_eq_some_iff.1 hL3).1 (fun e => hBl (by cases e; rfl))).trans hL3
  have hK4 : w4.heap[D]? = some (.deferred (some [])) := (hg4.block D (Array.getElem?_eq_some_iff.1 hK3).1 (fun e => hDB (by cases e; rfl))).trans hK3
  have hrow4 := hown'.kept hg4 (ownsRow_ne_a hown' hv3 (fun cur e => by first | cases e | exact hne (Obj.cells.inj e).2.1))
  have hl4 : l < w4.heap.size := (Array.getElem?_eq_some_iff.1 hL4).1
  have hb3 : Below w0.heap.size w0 w3 := (hb2.alloc hb2.size _).grown hg3' (by have := hb2.size; simp; omega) (fun k e => (World.ownsRow.lt hrow2 k e).1)
  have hb4 : Below w0.heap.size w0 w4 := hb3.grown hg4 hb3.size (fun k e => by cases e; exact h0B)
  have hk4 : KeepsWalks W w4 := ((hk2.trans (KeepsWalks.alloc _ _)).trans (KeepsWalks.of_grownBy hg3' (ownsRow_not_walk_a (hrow2.alloc _)))).trans (by rw [← hw4]; exact KeepsWalks.setCell _ _ _)
  clear hw4
  refine ⟨_, _, run_endRound none hL4, rfl, ⟨⟨_, (World.putObj_heap_other hBl).trans hv4, ?_⟩, World.putObj_heap_same hl4, (World.putObj_heap_other hDl).trans hK4, hb4.grown (grownBy_putObj_a _ _ _) hb4.size (fun k e => by cases e; exact h0l)⟩, hk4.trans (KeepsWalks.putObj _ hL4 rfl)⟩
  have := World.ownsRow.kept hrow4 (grownBy_putObj_a w4 l (.loop { { apRecK fn sv Bs D .ready none with state := .busy } with state := if (none : Option Code).isNone then .ready else .done, pending := none })) (ownsRow_ne_a hrow4 hL4 (fun cur e => by cases e))
  unfold KR
  rw [List.length_append, flatK_app]
  exact this
end Go.Proofs.Ytgddehhigamkkaa
