/- slices.Collect at keys that are structs: a new row of what the iterator gave. Conditions: lengths. -/
import Derived.Test.YtdfhdgdhhgabbaaNmG
import Derived.Great.BuildSlice
namespace Go.Proofs.Ytdfhdgdhhgabbaa
set_option linter.unusedVariables false
set_option linter.unusedSimpArgs false
open Go.RowKit Go.Maps Go.Sort Go.Shelf
set_option maxRecDepth 100000
set_option maxHeartbeats 2000000
/-- A row of names. -/
def flatN (l : List NW) : List Value := l.flatMap fun k => k.1.map b8
theorem flatN_app (a b : List NW) : flatN (a ++ b) = flatN a ++ flatN b := List.flatMap_append ..
theorem info_parts {o : Option TypeInfo} {z : Option Value} {s b : Nat} (h : o.map (fun i => (i.zero, i.size, i.bytes)) = some (z, s, b)) : ∃ i, o = some i ∧ i.zero = z ∧ i.size = s ∧ i.bytes = b := by
  cases o with
  | none => cases h
  | some i =>
    simp only [Option.map_some, Option.some.injEq, Prod.mk.injEq] at h
    exact ⟨i, rfl, h.1, h.2.1, h.2.2⟩
theorem infoN : (Try.prog.info? 24).map (fun i => (i.zero, i.size, i.bytes)) = some (some (.agg (nC zN)), 32, 32) := by
  have e : nC zN = Array.replicate 32 (.int .u8 0) := by
    unfold nC zN
    apply Array.ext'
    simp [b8, U8]
  have h : (Try.prog.info? 24).map (fun i => (i.zero, i.size, i.bytes)) = some (some (.agg (Array.replicate 32 (.int .u8 0))), 32, 32) := by kernel_rfl
  rw [e]
  exact h
def NR (w : World) (base : Nat) (v : Value) (l : List NW) : Prop := w.ownsRow base 24 32 v l.length (flatN l)
section
variable {w w' : World} {base : Nat} {v : Value} {l : List NW} {S : Nat → Prop}
theorem NR.kept (h : NR w base v l) (hk : Kept S w w') (hn : ∀ k, v.ownBlock = some k → ¬ S k) : NR w' base v l := hk.row h hn
theorem NR.below (h : NR w base v l) (hb : Below w.heap.size w w') : NR w' base v l := h.kept (Kept.of_below hb (fun _ => False)) (fun _ _ f => f)
theorem NR.nil (w : World) (base : Nat) : NR w base (.slice none 0 0) [] := ⟨rfl, .inl ⟨rfl, rfl⟩⟩
theorem NR.form (h : NR w base v l) : (v = .slice none 0 0 ∧ l = []) ∨ ∃ q c, v = .slice (some ⟨q, 0, none⟩) l.length c ∧ l.length ≤ c ∧ c ≤ maxLen ∧ base ≤ q ∧ q < w.heap.size := by
  rcases h.2 with ⟨e, h0⟩ | ⟨q, cap, cur, e, hq, hh, h1, h2, h3, h4⟩
  · exact .inl ⟨e, List.eq_nil_of_length_eq_zero h0⟩
  · exact .inr ⟨q, cap, e, h1, h2, hq, (Array.getElem?_eq_some_iff.1 hh).1⟩
theorem NR.slice (h : NR w base v l) : ∃ A c, v = .slice A l.length c ∧ l.length ≤ c ∧ c ≤ maxLen := by
  rcases h.form with ⟨rfl, rfl⟩ | ⟨q, c, rfl, h1, h2, _⟩
  · exact ⟨none, 0, rfl, Nat.le_refl _, by simp [maxLen]⟩
  · exact ⟨_, c, rfl, h1, h2⟩
end
theorem fillN (z cs : Array Value) (hz : z.size = 32) (hs : cs.size = 32) : Instr.fill (fun i => some (i * 32, 32)) ((Array.range (1 * 32)).map ((Value.agg z).cells[· % (Value.agg z).cells.size]!)) [(0, Value.agg cs)] = some cs := by
  have := Great.fill_whole (s := 32) (by decide) [Value.agg cs] ((Array.range (1 * 32)).map ((Value.agg z).cells[· % (Value.agg z).cells.size]!)) (fun v hv => by rw [List.mem_singleton] at hv; subst hv; exact hs) (by simp)
  have e : ([Value.agg cs].flatMap fun v => v.cells.toList).toArray = cs := by
    simp [Value.cells]
  rw [e] at this
  exact this
section
variable {F : Fence} {nF : Nat} {ops : Array Oper} {rest : List Oper} {o : Oper} {a : Act} {w : World} {Q : Exit → Act → World → Prop}
theorem wpIn_buildN (hg : o.guard = none) (x : Operand) (ho : o.op = .buildSlice 58 1 #[(0, x)]) (cs : Array Value) (hx : a.eval x = .agg cs) (hs : cs.size = 32)
    (h : wpListIn F nF Try.prog ops Q rest (a.put o.dst (.slice (some ⟨w.heap.size, 0, none⟩) 1 1)) (w.alloc (.cells cs 24))) : wpListIn F nF Try.prog ops Q (o :: rest) a w := by
  obtain ⟨i0, hi, hz0, hz1, hz2⟩ := info_parts infoN
  have hrun := run_buildSlice (P := Try.prog) w 58 24 1 #[(0, Value.agg cs)] cs i0 (.agg (nC zN)) Try.underlying58 hi hz0 (by rw [hz1]; decide) (by rw [hz1]; decide) (by rw [hz1]; exact fillN _ _ (nC_size zN_w) hs)
  refine wpListIn_plain hg fun K' hK' => ?_
  unfold Oper.wpIn
  refine ⟨by simp [Oper.about, ho], ?_⟩
  rw [Oper.semAt_plain F _ _ (by rw [ho]; intro c hc'; cases hc')]
  simp [execOp, ho, hx, hrun, Result.andThen]
  exact hK' _ _ h
end
def apAssignN : Code := (Code.region 2 #[{ dst := some 5, op := Op.alloc 24, type := 0, pos := "iter.go:51", after := #[], guard := none }, { dst := none, op := Op.store 24 (Operand.tmp 5) (Operand.tmp 7), type := 0, pos := "iter.go:51", after := #[{ on := 0, ground := Ground.data }, { on := 0, ground := Ground.phase }], guard := none }] false)
def apBodyN : Code := (Code.block 1 (Code.region 3 #[{ dst := some 8, op := Op.load 58 (Operand.tmp 2), type := 58, pos := "iter.go:52", after := #[], guard := none }, { dst := some 9, op := Op.load 24 (Operand.tmp 5), type := 24, pos := "iter.go:52", after := #[], guard := none }, { dst := some 10, op := Op.buildSlice 58 1 #[(0, Operand.tmp 9)], type := 58, pos := "iter.go:52", after := #[{ on := 1, ground := Ground.data }], guard := none }, { dst := some 11, op := Op.call { callee := Callee.builtin Builtin.append, args := #[Operand.tmp 8, Operand.tmp 10], argTypes := #[58, 58] }, type := 58, pos := "iter.go:52", after := #[{ on := 0, ground := Ground.data }, { on := 2, ground := Ground.data }], guard := none }, { dst := none, op := Op.store 58 (Operand.tmp 2) (Operand.tmp 11), type := 0, pos := "iter.go:52", after := #[{ on := 3, ground := Ground.data }, { on := 3, ground := Ground.chain }, { on := 0, ground := Ground.phase }, { on := 1, ground := Ground.phase }, { on := 2, ground := Ground.phase }, { on := 3, ground := Ground.phase }], guard := none }] false))
def apRecN (fn : FuncId) (sv : Value) (Bs D : Nat) (st : LoopState) (pend : Option Code) : Loop :=
  { state := st, pending := pend, fn, tmps := #[.slice none 0 0, sv, .pointer (some ⟨Bs, 0, none⟩), undef, .slice none 0 0, undef, sv, undef, undef, undef, undef, undef, undef], params := #[7], assign := apAssignN, body := apBodyN, defers := D }
/-- Between two rounds: the box holds a row of what has come so far. -/
structure ApN (w0 : World) (fn : FuncId) (sv : Value) (Bs l D : Nat) (ss : List NW) (W : World) : Prop where
  box : ∃ v, W.heap[Bs]? = some (.cells #[v] 58 (0, 0)) ∧ NR W w0.heap.size v ss
  L : W.heap[l]? = some (.loop (apRecN fn sv Bs D .ready none))
  K : W.heap[D]? = some (.deferred (some []))
  below : Below w0.heap.size w0 W
theorem apN_abides (w0 : World) (fn : FuncId) (sv : Value) (Bs l D B : Nat) (hB : w0.heap.size ≤ B) : AbidesFrom B (ApN w0 fn sv Bs l D) := fun s W W' row h hg hrow => by
  have hrow' : ∀ r, row = some r → ∃ o : Obj, W.heap[r]? = some o ∧ o.isWalk = true := fun r e => (hrow r e).2
  obtain ⟨v, hv, hr⟩ := h.box
  exact ⟨⟨v, (grownBy_keeps hg hrow' hv rfl).trans hv, ownsRow_abides_a hr hg hrow'⟩, (grownBy_keeps hg hrow' h.L rfl).trans h.L, (grownBy_keeps hg hrow' h.K rfl).trans h.K,
    h.below.grown hg h.below.size (fun k e => Nat.le_trans hB (hrow k e).1)⟩
theorem add_offN (q o k : Nat) : (⟨q, o, none⟩ : Addr).add k = ⟨q, o + k, none⟩ := by unfold Addr.add; split <;> simp_all
theorem row_cells {w : World} {E : TypeId} {k : Nm} : ∀ j u, (k.map b8)[j]? = some u → (w.alloc (.cells (nC k) E)).cell? ((⟨w.heap.size, 0, none⟩ : Addr).add j) = some u := by
  intro j u hu
  rw [add_offN, Nat.zero_add, (Bk.new w E (nC k)).cell]
  unfold nC
  simpa using hu
theorem apYieldN (F : Fence) (m : Nat) (w0 : World) (fn : FuncId) (hfn : F.fn fn) (sv : Value) (Bs l D : Nat) (hBl : Bs ≠ l) (hDl : D ≠ l) (hDB : D ≠ Bs) (h0B : w0.heap.size ≤ Bs) (h0l : w0.heap.size ≤ l)
    (N : Nat) (hN : N ≤ 100000) (ss : List NW) (x : NW) (W : World) (h : ApN w0 fn sv Bs l D ss W) (hlen : ss.length < N) :
    YieldAt F m Try.prog l #[nE x] W fun e W' => e = .returned (.bool true) ∧ ApN w0 fn sv Bs l D (ss ++ [x]) W' ∧ KeepsWalks W W' := by
  have hne : (58 : TypeId) ≠ 24 := by decide
  obtain ⟨i0, hi, hz0, hz1, hz2⟩ := info_parts infoN
  obtain ⟨v, hv, hrow⟩ := h.box
  refine ⟨fn, #[.slice none 0 0, sv, .pointer (some ⟨Bs, 0, none⟩), undef, .slice none 0 0, undef, sv, nE x, undef, undef, undef, undef, undef], apAssignN, apBodyN, by simpa [apRecN] using run_yield (P := Try.prog) (args := #[nE x]) h.L rfl, roundIn_of_wpIn hfn ?_⟩
  have hl : l < W.heap.size := (Array.getElem?_eq_some_iff.1 h.L).1
  have hBlt : Bs < W.heap.size := (Array.getElem?_eq_some_iff.1 hv).1
  have hDlt : D < W.heap.size := (Array.getElem?_eq_some_iff.1 h.K).1
  have ne_of : ∀ {j : Nat} {o : Obj}, W.heap[j]? = some o → (∀ cur, o ≠ .cells cur 24 (0, 0)) → some j ≠ v.ownBlock := fun hj hno => by
    rcases ownsRow_ne_a hrow hj hno with e | e
    · rw [e]; simp
    · exact fun e' => e e'.symm
  have nv : some Bs ≠ v.ownBlock := ne_of hv (fun cur e => by first | cases e | exact hne (Obj.cells.inj e).2.1)
  have nl : some l ≠ v.ownBlock := ne_of h.L (fun cur e => by cases e)
  have nk : some D ≠ v.ownBlock := ne_of h.K (fun cur e => by cases e)
  -- the variable's box
  obtain ⟨Wb, hWb⟩ : ∃ X, X = W.alloc (.cells (nC x.1) 24) := ⟨_, rfl⟩
  have hszb : Wb.heap.size = W.heap.size + 1 := by rw [hWb]; simp
  have hvb : Wb.heap[Bs]? = some (.cells #[v] 58 (0, 0)) := by rw [hWb]; exact (Below.heap_alloc _ _ Bs hBlt).trans hv
  have hKb : Wb.heap[D]? = some (.deferred (some [])) := by rw [hWb]; exact (Below.heap_alloc _ _ D hDlt).trans h.K
  have hLb : Wb.heap[l]? = some (.loop (apRecN fn sv Bs D .ready none)) := by rw [hWb]; exact (Below.heap_alloc _ _ l hl).trans h.L
  have hrowb : Wb.ownsRow w0.heap.size 24 32 v ss.length (flatN ss) := by rw [hWb]; exact World.ownsRow.alloc hrow _
  have hbb : Below w0.heap.size w0 Wb := by rw [hWb]; exact h.below.alloc h.below.size _
  have hkb : KeepsWalks W Wb := by rw [hWb]; exact KeepsWalks.alloc _ _
  have hxb : Bk Wb W.heap.size 24 (nC x.1) := by rw [hWb]; exact Bk.new _ _ _
  -- the round begins
  have hbr := run_beginRound (P := Try.prog) hLb rfl
  obtain ⟨W2, hW2⟩ : ∃ W2, Wb.putObj l (.loop { apRecN fn sv Bs D .ready none with state := .busy }) = W2 := ⟨_, rfl⟩
  rw [hW2] at hbr
  have hg2 : Wb.grownBy W2 (some l) := by rw [← hW2]; exact grownBy_putObj_a _ _ _
  have hsz2 : W2.heap.size = Wb.heap.size := by rw [← hW2]; simp [World.putObj]
  have hk2 : KeepsWalks W W2 := by rw [← hW2]; exact hkb.trans (KeepsWalks.putObj _ hLb rfl)
  have hv2 : W2.heap[Bs]? = some (.cells #[v] 58 (0, 0)) := by rw [← hW2]; exact (World.putObj_heap_other hBl).trans hvb
  have hK2 : W2.heap[D]? = some (.deferred (some [])) := by rw [← hW2]; exact (World.putObj_heap_other hDl).trans hKb
  have hL2 : W2.heap[l]? = some (.loop { apRecN fn sv Bs D .ready none with state := .busy }) := by rw [← hW2]; exact World.putObj_heap_same (by omega)
  have hrow2 : W2.ownsRow w0.heap.size 24 32 v ss.length (flatN ss) := World.ownsRow.kept hrowb hg2 (ownsRow_ne_a hrowb hLb (fun cur e => by cases e))
  have hb2 : Below w0.heap.size w0 W2 := hbb.grown hg2 hbb.size (fun k e => by cases e; exact h0l)
  have hx2 : Bk W2 W.heap.size 24 (nC x.1) := (hg2.block _ hxb.lt (fun e => by injection e with e; omega)).trans hxb
  obtain ⟨hc2, hf2⟩ := cell_of_box_a hv2
  have HS := Lib.hid (And.intro hszb (And.intro hBlt (And.intro hl (And.intro hDlt hsz2))))
  have HL := Lib.hid (And.intro hL2 (And.intro hK2 hv2))
  have HR := Lib.hid (And.intro hrow2 (And.intro hb2 hk2))
  have HX2 := Lib.hid hx2
  have HWB := Lib.hid hxb
  obtain ⟨za, hza⟩ : ∃ za, za = nC zN := ⟨_, rfl⟩
  have hzero := zeroN
  rw [← hza] at hzero hz0
  have HZS := Lib.hid (show za.size = 32 from by rw [hza]; exact nC_size zN_w)
  have HAS := Lib.hid (nC_size x.2)
  have HAO := Lib.hid (nC_one x.1)
  clear hg2 hb2 hrow2 hv2 hK2 hL2 hszb hBlt hl hDlt hsz2 hW2 hvb hKb hLb hrowb hbb hkb hxb hv hk2 hx2 hrow hza
  unfold apAssignN
  unfold nE nV
  gi_wp2_with (first
    | (refine wpIn_storeNew rfl _ _ rfl rfl (nC x.1) rfl rfl HAS.out HZS.out HAO.out ?_)
    | gi_round_op_a)
  rw [← hWb]
  refine ⟨W2, hbr, ?_⟩
  clear hWb hbr
  unfold apBodyN
  gi_wp2_with (first
    | (gi_at_builtin; refine wpListIn_append_own _ rfl _ _ 58 rfl w0.heap.size 24 i0 (.agg za) 32 32 Try.underlying58 hi hz0 hz1 hz2 HZS.out (by decide) _ _ _ rfl (HR.out.1.alloc _) ⟨W2.heap.size, 0, none⟩ 1 1 (x.1.map b8) rfl (by rw [List.length_map]; exact x.2) row_cells (fun u hu => by obtain ⟨y, _, rfl⟩ := List.mem_map.1 hu; rfl) (by unfold maxLen; omega) (by omega) (by have := HR.out.2.1.size; simp; omega) ?_; intro v' w3 hown' hg3 hnil3
       have hv3 : w3.heap[Bs]? = some (.cells #[v] 58 (0, 0)) := (hg3.block Bs (by have := HS.out; simp; omega) nv).trans ((Below.heap_alloc _ _ Bs (by have := HS.out; omega)).trans HL.out.2.2)
       obtain ⟨hc3, hf3⟩ := cell_of_box_a hv3
       obtain ⟨g', cap', cur', rfl, hbase', hgb', hr1, hr2, hr3, hr4⟩ : ∃ g' cap' cur', v' = .slice (some ⟨g', 0, none⟩) (ss.length + 1) cap' ∧ w0.heap.size ≤ g' ∧ w3.heap[g']? = some (.cells cur' 24 (0, 0)) ∧ ss.length + 1 ≤ cap' ∧ cap' ≤ maxLen ∧ cur'.size = cap' * 32 ∧ cur'.toList.take ((ss.length + 1) * 32) = flatN ss ++ (x.1.map b8) := by
         rcases hown'.2 with ⟨_, h0⟩ | h'
         · exact absurd h0 (by omega)
         · exact h'
       go_frame)
    | (refine wpIn_loadN rfl _ rfl W.heap.size rfl 24 (nC x.1) HX2.out HAS.out ?_)
    | (refine wpIn_buildN rfl _ rfl (nC x.1) rfl HAS.out ?_)
    | gi_round_op_a)
  obtain ⟨hszb, hBlt, hl, hDlt, hsz2⟩ := HS.out
  obtain ⟨hL2, hK2, hv2⟩ := HL.out
  obtain ⟨hrow2, hb2, hk2⟩ := HR.out
  have hl2 : l < W2.heap.size := by omega
  have hDlt2 : D < W2.heap.size := by omega
  have hg3' : (W2.alloc (.cells (nC x.1) 24)).grownBy w3 v.ownBlock := hg3
  have hL3 : w3.heap[l]? = some (.loop { apRecN fn sv Bs D .ready none with state := .busy }) := (hg3'.block l (by simp; omega) nl).trans ((Below.heap_alloc _ _ l hl2).trans hL2)
  have hK3 : w3.heap[D]? = some (.deferred (some [])) := (hg3'.block D (by simp; omega) nk).trans ((Below.heap_alloc _ _ D hDlt2).trans hK2)
  obtain ⟨w4, hw4⟩ : ∃ w4, w3.setCell ⟨Bs, 0, none⟩ (.slice (some ⟨g', 0, none⟩) (ss.length + 1) cap') = w4 := ⟨_, rfl⟩
  rw [hw4]
  have hg4 : w3.grownBy w4 (some Bs) := by rw [← hw4]; exact grownBy_setCell0_a _ _ _
  have hv4 : w4.heap[Bs]? = some (.cells #[.slice (some ⟨g', 0, none⟩) (ss.length + 1) cap'] 58 (0, 0)) := by rw [← hw4]; exact heap_setCell_box_a _ hv3
  have hL4 : w4.heap[l]? = some (.loop { apRecN fn sv Bs D .ready none with state := .busy }) := (hg4.block l (Array.getElem?_eq_some_iff.1 hL3).1 (fun e => hBl (by cases e; rfl))).trans hL3
  have hK4 : w4.heap[D]? = some (.deferred (some [])) := (hg4.block D (Array.getElem?_eq_some_iff.1 hK3).1 (fun e => hDB (by cases e; rfl))).trans hK3
  have hrow4 := hown'.kept hg4 (ownsRow_ne_a hown' hv3 (fun cur e => by first | cases e | exact hne (Obj.cells.inj e).2.1))
  have hl4 : l < w4.heap.size := (Array.getElem?_eq_some_iff.1 hL4).1
  have hb3 : Below w0.heap.size w0 w3 := (hb2.alloc hb2.size _).grown hg3' (by have := hb2.size; simp; omega) (fun k e => (World.ownsRow.lt hrow2 k e).1)
  have hb4 : Below w0.heap.size w0 w4 := hb3.grown hg4 hb3.size (fun k e => by cases e; exact h0B)
  have hk4 : KeepsWalks W w4 := ((hk2.trans (KeepsWalks.alloc _ _)).trans (KeepsWalks.of_grownBy hg3' (ownsRow_not_walk_a (hrow2.alloc _)))).trans (by rw [← hw4]; exact KeepsWalks.setCell _ _ _)
  clear hw4
  refine ⟨_, _, run_endRound none hL4, rfl, ⟨⟨_, (World.putObj_heap_other hBl).trans hv4, ?_⟩, World.putObj_heap_same hl4, (World.putObj_heap_other hDl).trans hK4, hb4.grown (grownBy_putObj_a _ _ _) hb4.size (fun k e => by cases e; exact h0l)⟩, hk4.trans (KeepsWalks.putObj _ hL4 rfl)⟩
  have := World.ownsRow.kept hrow4 (grownBy_putObj_a w4 l (.loop { { apRecN fn sv Bs D .ready none with state := .busy } with state := if (none : Option Code).isNone then .ready else .done, pending := none })) (ownsRow_ne_a hrow4 hL4 (fun cur e => by cases e))
  unfold NR
  rw [List.length_append, flatN_app]
  rw [show flatN [x] = x.1.map b8 from by simp [flatN]]
  exact this
end Go.Proofs.Ytdfhdgdhhgabbaa
