/- How an argument that is a graph is opened. No conditions. -/
import Derived.Test.YtidaimcndbhefaaOpenR
import Derived.Test.YtidaimcndbhefaaGrA
namespace Go.Proofs.Ytidaimcndbhefaa
set_option linter.unusedVariables false
set_option linter.unusedSimpArgs false
open Go.ChangeShapes Go.WideShapes Go.ChangeAt Go.RowKit
set_option maxRecDepth 100000
section
variable {H : Type} {enc : TypeId × Value → H} {P : Program} {w : World} {base : Nat} {spare : Nat → Bool} {held : Bool}
/-- A cell that is a slice of structs of one-cell fields. -/
theorem cell_rows {t e : TypeId} {fs : Array Field} {K n0 : Nat} {u : Value} {y : DataW H × List MemPlace} (ht : P.underlying t = some (.slice e)) (he : P.underlying e = some (.struct fs)) (hone : Go.Deep.oneCellFields P fs = true) (hC : P.cellsOf e = K) (hK : fs.size = K)
    (hf : DataW.trod enc P w base spare held n0 t [u] = some y) :
    ∃ (A : Option Addr) (n c : Nat), u = .slice A n c ∧ n ≤ c ∧ c ≤ maxLen ∧ ∀ i, i < n → ∃ ad m, A = some ad ∧ ∀ j f, fs[j]? = some f → ∃ u y, w.cell? (ad.add (i * K + j)) = some u ∧ DataW.trod enc P w base spare held m f.type [u] = some y := by
  rcases Go.Deep.open_slice ht hf with ⟨hcs, _⟩ | ⟨a, len', cap', m, n', D, Pl, hcs, hb, hl, hm, hmm, hx, hrow⟩
  · have hu : u = .slice none 0 0 := by simpa using hcs
    exact ⟨none, 0, 0, hu, Nat.le_refl _, by simp [maxLen], fun i hi => absurd hi (by omega)⟩
  · have hu : u = .slice (some a) len' cap' := by simpa using hcs
    refine ⟨some a, len', cap', hu, hl, hm, fun i hi => ?_⟩
    obtain ⟨cs', h1, h2⟩ := hrow i (by rw [hmm]; split <;> omega)
    obtain ⟨_, hlen, hcell⟩ := World.cells?_some h1
    obtain ⟨xs, n2, _, _, hl2, hlen2, hfs⟩ := DataW.trod_struct he h2
    refine ⟨a, n2, rfl, fun j f hj => ?_⟩
    obtain ⟨ho, h1c⟩ := Go.Deep.hone_of hone j f hj
    have hjk : j < fs.size := (Array.getElem?_eq_some_iff.1 hj).1
    have hjl : j < cs'.length := by omega
    have hfj := hfs j f hj
    have e1 : (cs'.drop f.offset).take (P.cellsOf f.type) = [cs'[j]] := by
      rw [ho, h1c, List.drop_eq_getElem_cons hjl]
      rfl
    rw [e1, List.getElem?_eq_getElem (by omega)] at hfj
    refine ⟨cs'[j], _, ?_, hfj⟩
    have := hcell j (by omega)
    rw [List.getElem?_eq_getElem hjl, add_add', hC] at this
    exact this
theorem cell_str {n : Nat} {t : TypeId} {u : Value} {y : DataW H × List MemPlace} (ht : P.underlying t = some .string) (h : DataW.trod enc P w base spare held n t [u] = some y) : ∃ s : ByteArray, u = .string s ∧ s.size ≤ maxLen := by
  obtain ⟨s, h, _, hw⟩ := DataW.trod_string ht h
  exact ⟨s, by simpa using h, hw⟩
end
theorem numI : ∀ z : Int, (Lit.int .i64 z).wf = true → ∃ a : Int, iV a = .int .i64 z := fun z _ => ⟨z, rfl⟩
/-- A graph that came in. -/
structure GvOk (W : World) (g : Gv) : Prop where
  at_ : g.At W W.heap.size
  cn : g.c ≤ maxLen
  cr : g.c2 ≤ maxLen
  nd : ∀ x ∈ g.n, x.c ≤ maxLen ∧ x.d ≤ maxLen
  st : ∀ r ∈ g.r, r.s.size ≤ maxLen ∧ (Lit.int .i64 r.t).wf = true
theorem GvOk.up {W W' : World} {g : Gv} (h : GvOk W g) (hb : Below W.heap.size W W') : GvOk W' g := ⟨h.at_.up hb, h.cn, h.cr, h.nd, h.st⟩
section
variable {H : Type} {enc : TypeId × Value → H} {W : World} {base : Nat} {sp : Nat → Bool} {hd : Bool}
theorem cell_nodes {n0 : Nat} {u : Value} {y : DataW H × List MemPlace} (h : DataW.trod enc Try.prog W base sp hd n0 22 [u] = some y) : ∃ (A : Option Addr) (xs : List Nv) (c : Nat), u = .slice A xs.length c ∧ xs.length ≤ c ∧ c ≤ maxLen ∧ NRow W W.heap.size A xs ∧ ∀ x ∈ xs, x.c ≤ maxLen ∧ x.d ≤ maxLen := by
  have he := Try.underlying53
  obtain ⟨A, n, c, rfl, hn, hm, hrow⟩ := cell_rows (K := 2) Try.underlying22 he (by kernel_rfl) (by kernel_rfl) rfl h
  obtain ⟨l, hl, hp⟩ := choose_lst (α := Nv) (p := fun i x => ∃ ad, A = some ad ∧ ad.block < W.heap.size ∧ W.cell? (ad.add (i * 2)) = some x.vp ∧ W.cell? ⟨(ad.add (i * 2)).block, (ad.add (i * 2)).off + 1, none⟩ = some x.vd ∧ x.At W W.heap.size ∧ x.c ≤ maxLen ∧ x.d ≤ maxLen) n (fun k hk => by
    obtain ⟨ad, m, e, hf⟩ := hrow k hk
    obtain ⟨u0, y0, c0, t0⟩ := hf 0 _ rfl
    obtain ⟨u1, y1, c1, t1⟩ := hf 1 _ rfl
    obtain ⟨A0, b0, n0, rfl, h0, hm0, r0⟩ := cell_nums iV (k := .i64) (e := 3) numI (by kernel_rfl) (by kernel_rfl) (by kernel_rfl) t0
    obtain ⟨A1, b1, n1, rfl, h1, hm1, r1⟩ := cell_nums b8 (k := .u8) (e := 5) num8 (by kernel_rfl) (by kernel_rfl) (by kernel_rfl) t1
    have hb := cell_lt c0
    rw [add_block] at hb
    exact ⟨⟨A0, n0, A1, n1, b0, b1⟩, ad, e, hb, c0, (congrArg W.cell? (add_far ad (k * 2) 0)).symm.trans c1, ⟨r0, r1, h0, h1⟩, hm0, hm1⟩)
  subst hl
  refine ⟨A, l, c, rfl, hn, hm, fun i hi => ?_, fun x hx => ?_⟩
  · obtain ⟨ad, h1, h2, h3, h4, h5, _⟩ := hp i hi
    exact ⟨ad, h1, h2, h3, h4, h5⟩
  · obtain ⟨i, hi, rfl⟩ := List.mem_iff_getElem.1 hx
    obtain ⟨ad, h1, h2, h3, h4, h5, h6⟩ := hp i hi
    exact h6
theorem cell_roots {n0 : Nat} {u : Value} {y : DataW H × List MemPlace} (h : DataW.trod enc Try.prog W base sp hd n0 23 [u] = some y) : ∃ (A : Option Addr) (xs : List Rv) (c : Nat), u = .slice A xs.length c ∧ xs.length ≤ c ∧ c ≤ maxLen ∧ RoRow W W.heap.size A xs ∧ ∀ x ∈ xs, x.s.size ≤ maxLen ∧ (Lit.int .i64 x.t).wf = true := by
  have he := Try.underlying58
  obtain ⟨A, n, c, rfl, hn, hm, hrow⟩ := cell_rows (K := 2) Try.underlying23 he (by kernel_rfl) (by kernel_rfl) rfl h
  obtain ⟨l, hl, hp⟩ := choose_lst (α := Rv) (p := fun i x => ∃ ad, A = some ad ∧ ad.block < W.heap.size ∧ W.cell? (ad.add (i * 2)) = some (.string x.s) ∧ W.cell? ⟨(ad.add (i * 2)).block, (ad.add (i * 2)).off + 1, none⟩ = some (.int .i64 x.t) ∧ x.s.size ≤ maxLen ∧ (Lit.int .i64 x.t).wf = true) n (fun k hk => by
    obtain ⟨ad, m, e, hf⟩ := hrow k hk
    obtain ⟨u0, y0, c0, t0⟩ := hf 0 _ rfl
    obtain ⟨u1, y1, c1, t1⟩ := hf 1 _ rfl
    obtain ⟨s, rfl, hs⟩ := cell_str (by kernel_rfl) t0
    obtain ⟨z, rfl, hz⟩ := cell_int (k := .i64) (by kernel_rfl) t1
    have hb := cell_lt c0
    rw [add_block] at hb
    exact ⟨⟨s, z⟩, ad, e, hb, c0, (congrArg W.cell? (add_far ad (k * 2) 0)).symm.trans c1, hs, hz⟩)
  subst hl
  refine ⟨A, l, c, rfl, hn, hm, fun i hi => ?_, fun x hx => ?_⟩
  · obtain ⟨ad, h1, h2, h3, h4, _⟩ := hp i hi
    exact ⟨ad, h1, h2, h3, h4⟩
  · obtain ⟨i, hi, rfl⟩ := List.mem_iff_getElem.1 hx
    obtain ⟨ad, h1, h2, h3, h4, h6⟩ := hp i hi
    exact h6
theorem open_str_Graph {r : Reach} {b0 : Nat} {v : Value} {d : DataW H} {p : List MemPlace}
    (hv : Value.okWide Try.prog W r b0 25 v) (h : DataW.Trod enc Try.prog W base sp hd 25 v d p) : ∃ g : Gv, v = g.v ∧ GvOk W g := by
  obtain ⟨cs, rfl, hsz⟩ := okWide_struct Try.underlying25 hv
  obtain ⟨l⟩ := cs
  obtain ⟨fuel, hf⟩ := h
  have k2 : Try.prog.cellsOf 25 = 2 := by kernel_rfl
  have kN : Try.prog.cellsOf 22 = 1 := by kernel_rfl
  have kR : Try.prog.cellsOf 23 = 1 := by kernel_rfl
  obtain ⟨xs, m, _, hx, hl, hlen, hg⟩ := DataW.trod_struct Try.underlying25 hf
  have hl2 : l.length = 2 := by
    have := hl.trans k2
    simpa [Value.cells] using this
  match l, hl2 with
  | [c0, c1], _ =>
    match xs, hlen with
    | [y0, y1], _ =>
      have g0 := hg 0 _ rfl
      have g1 := hg 1 _ rfl
      simp only [Value.cells, kN, kR, List.drop_zero, List.drop_succ_cons, List.take_succ_cons, List.take_zero, List.getElem?_cons_zero, List.getElem?_cons_succ] at g0 g1
      obtain ⟨A0, x0, n0, rfl, h0, hm0, r0, w0⟩ := cell_nodes g0
      obtain ⟨A1, x1, n1, rfl, h1, hm1, r1, w1⟩ := cell_roots g1
      exact ⟨⟨A0, n0, A1, n1, x0, x1⟩, rfl, ⟨⟨r0, r1, h0, h1⟩, hm0, hm1, w0, w1⟩⟩
end
end Go.Proofs.Ytidaimcndbhefaa
