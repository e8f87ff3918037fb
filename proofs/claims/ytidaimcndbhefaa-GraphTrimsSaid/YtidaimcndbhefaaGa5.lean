/- Texts joined: GrX GrE GrF EqlB GrG RegS RegU GrQ. -/
import Derived.Test.YtidaimcndbhefaaGa4
import Derived.Lib.SmallJoins
/- The first region of graph.Trim that draws its order. Conditions: lengths. -/
namespace Go.Proofs.Ytidaimcndbhefaa
set_option linter.unusedVariables false
set_option linter.unusedSimpArgs false
open Go.RowKit Go.Maps
/-- A slice of numbers of the call's own. -/
def IntsV (xs : List Int) (v : Value) (w : World) : Prop := ∃ A c, v = .slice A xs.length c ∧ Rd iV w w.heap.size A xs
theorem IntsV.mono {xs : List Int} {v : Value} {a b : World} (h : IntsV xs v a) (g : Below a.heap.size a b) : IntsV xs v b := by
  obtain ⟨A, c, e, hr⟩ := h
  exact ⟨A, c, e, (hr.below g).more g.size⟩
/-- A row of two slices. -/
def CatV (xs : List Int) (u : Value) (v : Value) (w : World) : Prop := ∃ b A c, v = .slice (some ⟨b, 0, none⟩) 2 2 ∧ Bk w b 26 #[.slice A xs.length c, u] ∧ Rd iV w w.heap.size A xs
theorem CatV.mono {xs : List Int} {u v : Value} {a b : World} (h : CatV xs u v a) (g : Below a.heap.size a b) : CatV xs u v b := by
  obtain ⟨k, A, c, e, hb, hr⟩ := h
  exact ⟨k, A, c, e, hb.below g hb.lt, (hr.below g).more g.size⟩
/-- What Reach answers. -/
def ReV (B : Nat) (ns : List Nv) (N : Nat) (fr : List Int) (v : Value) (w : World) : Prop := ∃ q L, v = .slice (some ⟨q, 0, none⟩) N N ∧ Ow tV 4 w B (.slice (some ⟨q, 0, none⟩) N N) L ∧ L.length = N ∧ ∀ p, hasG N p = true → (seenG L p = true ↔ Rch ns fr p)
theorem ReV.mono {B : Nat} {ns : List Nv} {N : Nat} {fr : List Int} {v : Value} {a b : World} (h : ReV B ns N fr v a) (g : Below a.heap.size a b) : ReV B ns N fr v b := by
  obtain ⟨q, L, e, ho, r⟩ := h
  exact ⟨q, L, e, ho.below g, r⟩
set_option maxHeartbeats 1000000
set_option maxRecDepth 100000
theorem named_iv {w : World} {A A2 : Option Addr} {ca ca2 N M : Nat} {ns : List Nv} {rs : List Rv} (hN : Hid (N = ns.length)) (hM : Hid (M = rs.length)) (W : World) (hb : Below w.heap.size w W) (hg : (⟨A, ca, A2, ca2, ns, rs⟩ : Gv).At w w.heap.size) (hs : (⟨A, ca, A2, ca2, ns, rs⟩ : Gv).Small) : Calls Try.prog 21 #[.agg #[.slice A N ca, .slice A2 M ca2]] W fun e w2 => ∃ u, e = .returned u ∧ Below W.heap.size W w2 ∧ IntsV (rs.map (·.t)) u w2 := by
  have h := named_g W ⟨A, ca, A2, ca2, ns, rs⟩ (hg.up hb) hs
  unfold Gv.v Gv.vn Gv.vr at h
  simp only at h
  rw [← hN.out, ← hM.out] at h
  refine h.mono ?_
  rintro e w2 ⟨v, rfl, ho, b2⟩
  obtain ⟨A', c', rfl, _⟩ := ho.form
  exact ⟨_, rfl, b2, A', c', rfl, ho.rd⟩
theorem concat_iv {xs ys : List Int} {AK : Option Addr} {K ck : Nat} (hK : Hid (K = ys.length)) (hl : xs.length ≤ 1000000) (hl2 : ys.length ≤ 1000000) {W : World} (hy : Rd iV W W.heap.size AK ys) {v : Value} (h : CatV xs (.slice AK K ck) v W) : Calls Try.prog 31 #[v] W fun e w2 => ∃ u, e = .returned u ∧ Below W.heap.size W w2 ∧ IntsV (xs ++ ys) u w2 := by
  obtain ⟨b, A, c, rfl, hb, hr⟩ := h
  rw [hK.out] at hb
  refine (concat_c W b A AK c ck xs ys hr hy hb hl hl2).mono ?_
  rintro e w2 ⟨v, rfl, ho, b2⟩
  obtain ⟨A', c', rfl, _⟩ := ho.form
  exact ⟨_, rfl, b2, A', c', rfl, ho.rd⟩
theorem reach_iv {w : World} {A A2 : Option Addr} {ca ca2 N M B : Nat} {ns : List Nv} {rs : List Rv} (hN : Hid (N = ns.length)) (hM : Hid (M = rs.length)) {W : World} (hb : Below w.heap.size w W) (hB : B ≤ W.heap.size) (hg : (⟨A, ca, A2, ca2, ns, rs⟩ : Gv).At w w.heap.size) (hs : (⟨A, ca, A2, ca2, ns, rs⟩ : Gv).Small) {fr : List Int} (hl : fr.length ≤ 1000000) {v : Value} (h : IntsV fr v W) : Calls Try.prog 13 #[.agg #[.slice A N ca, .slice A2 M ca2], v] W fun e w2 => ∃ u, e = .returned u ∧ Below W.heap.size W w2 ∧ ReV B ns N fr u w2 := by
  obtain ⟨AF, cf, rfl, hr⟩ := h
  have h := reach_c W ⟨A, ca, A2, ca2, ns, rs⟩ (hg.up hb) hs AF cf fr hr hl
  unfold Gv.v Gv.vn Gv.vr at h
  simp only at h
  rw [← hN.out, ← hM.out] at h
  refine h.mono ?_
  rintro e w2 ⟨q, L, rfl, ho, h1, h2, b2⟩
  exact ⟨_, rfl, b2, q, L, rfl, ho.mono (by omega), h1, h2⟩
theorem trim_r (Q : Exit → Act → World → Prop) (a0 : Act) (w : World) (w0 : World) (s B : Nat) (A A2 AK : Option Addr) (ca ca2 N M K ck : Nat) (ns : List Nv) (rs : List Rv) (ys : List Int) (hN : Hid (N = ns.length)) (hM : Hid (M = rs.length)) (hK : Hid (K = ys.length)) (hg : Hid ((⟨A, ca, A2, ca2, ns, rs⟩ : Gv).At w0 w0.heap.size)) (hs : Hid ((⟨A, ca, A2, ca2, ns, rs⟩ : Gv).Small)) (hb : Hid (Below w0.heap.size w0 w)) (hk : Bk w s 25 #[.slice A N ca, .slice A2 M ca2]) (hy : Hid (Rd iV w w.heap.size AK ys)) (hlen : Hid (((rs.map (·.t)) ++ ys).length ≤ 1000000 ∧ (rs.map (·.t)).length ≤ 1000000 ∧ ys.length ≤ 1000000)) (hB : Hid (B ≤ w.heap.size)) (hsz : a0.tmps.size = 96) (sl1 : a0.tmps.getD 1 undef = .slice AK K ck) (sl2 : a0.tmps.getD 2 undef = .pointer (some ⟨s, 0, none⟩))
    (fin : ∀ (vals : Nat → Value) (w1 : World), Below w.heap.size w w1 → (ReV B ns N (rs.map (·.t) ++ ys)) (vals 6) w1 → (IsV (.int .i64 N)) (vals 7) w1 → (IsV (Go.Value.int Go.IntKind.i64 0)) (vals 8) w1 → Q .normal (putD vals [20, 21, 22, 23, 24, 25, 26, 27, 28] 0 a0) w1) :
    (Code.region 3 (regIn Try.f15 3) true).wp Try.prog Q a0 w := by
  refine region_by (G := fun w w1 => Below w.heap.size w w1) [IsV (.agg #[.slice A N ca, .slice A2 M ca2]),
    IsV (.agg #[.slice A N ca, .slice A2 M ca2]),
    IntsV (rs.map (·.t)),
    IsV (.slice AK K ck),
    CatV (rs.map (·.t)) (.slice AK K ck),
    IntsV (rs.map (·.t) ++ ys),
    ReV B ns N (rs.map (·.t) ++ ys),
    IsV (.int .i64 N),
    IsV (Go.Value.int Go.IntKind.i64 0)]
    [20, 21, 22, 23, 24, 25, 26, 27, 28] (by kernel_rfl) (Gw.drew _) Gw.trans (by rw [hsz]; kernel_rfl) (by kernel_rfl) ?_ ?_ ?_
  · intro f hf
    simp only [List.mem_cons, List.not_mem_nil, or_false] at hf
    rcases hf with rfl | rfl | rfl | rfl | rfl | rfl | rfl | rfl | rfl <;> intro v a b h g <;> first | exact IsV.mono h | exact IntsV.mono h g | exact CatV.mono h g | exact ReV.mono h g
  · refine ⟨?_, ?_, ?_, ?_, ?_, ?_, ?_, ?_, ?_, trivial⟩
    · refine owes_v (Go.Op.load 25 (Go.Operand.tmp 2)) 25 [] (by kernel_rfl) (by kernel_rfl) (by kernel_rfl) rfl fun vals w1 ρ hG hF hρ hcst hfun => ?_
      have e2 : ρ (.tmp 2) = .pointer (some ⟨s, 0, none⟩) := ((hρ 2).trans (slotO [] (by kernel_rfl))).trans sl2
      obtain ⟨k0, k1⟩ := (hk.below hG hk.lt).two
      clear hρ hF hcst hfun sl1 sl2 fin
      exact opv_val (by go_simp <;> rfl) ⟨gw_self _, rfl⟩
    · refine owes_v (Go.Op.load 25 (Go.Operand.tmp 2)) 25 [] (by kernel_rfl) (by kernel_rfl) (by kernel_rfl) rfl fun vals w1 ρ hG hF hρ hcst hfun => ?_
      have e2 : ρ (.tmp 2) = .pointer (some ⟨s, 0, none⟩) := ((hρ 2).trans (slotO [] (by kernel_rfl))).trans sl2
      obtain ⟨k0, k1⟩ := (hk.below hG hk.lt).two
      clear hρ hF hcst hfun sl1 sl2 fin
      exact opv_val (by go_simp <;> rfl) ⟨gw_self _, rfl⟩
    · refine owes_v (Go.Op.call { callee := Go.Callee.value (Go.Operand.func 21), args := #[Go.Operand.tmp 21], argTypes := #[25] }) 26 [1] (by kernel_rfl) (by kernel_rfl) (by kernel_rfl) rfl fun vals w1 ρ hG hF hρ hcst hfun => ?_
      have e21 : ρ (.tmp 21) = .agg #[.slice A N ca, .slice A2 M ca2] := ((hρ 21).trans (slotJ [1] (by rw [hsz]; decide) (by kernel_rfl))).trans (hF 1 (by decide))
      clear hρ hF hcst sl1 sl2 fin
      exact opv_enter (by go_simp <;> rfl) (named_iv hN hM w1 (hb.out.trans (hG.mono hb.out.size)) hg.out hs.out)
    · exact owes_mv 1 (by kernel_rfl) (by kernel_rfl) (by kernel_rfl) sl1 (fun _ => rfl)
    · refine owes_v (Go.Op.buildSlice 80 2 #[(0, Go.Operand.tmp 22), (1, Go.Operand.tmp 23)]) 80 [2, 3] (by kernel_rfl) (by kernel_rfl) (by kernel_rfl) rfl fun vals w1 ρ hG hF hρ hcst hfun => ?_
      have f22 : (IntsV (rs.map (·.t))) (vals 2) w1 := hF 2 (by decide)
      have e22 : ρ (.tmp 22) = vals 2 := (hρ 22).trans (slotJ [2, 3] (by rw [hsz]; decide) (by kernel_rfl))
      have e23 : ρ (.tmp 23) = .slice AK K ck := ((hρ 23).trans (slotJ [2, 3] (by rw [hsz]; decide) (by kernel_rfl))).trans (hF 3 (by decide))
      obtain ⟨XA, Xc, hx0, hx⟩ := f22
      rw [hx0] at e22
      clear hρ hF hcst hfun sl1 sl2 fin
      exact opv_val (by go_simp <;> rfl) ⟨Gw.alloc _ _, ⟨_, XA, Xc, rfl, Bk.new w1 _ _, (hx.alloc (Nat.le_refl _) _).more (by simp)⟩⟩
    · refine owes_v (Go.Op.call { callee := Go.Callee.value (Go.Operand.func 31), args := #[Go.Operand.tmp 24], argTypes := #[80] }) 26 [4] (by kernel_rfl) (by kernel_rfl) (by kernel_rfl) rfl fun vals w1 ρ hG hF hρ hcst hfun => ?_
      have f24 : (CatV (rs.map (·.t)) (.slice AK K ck)) (vals 4) w1 := hF 4 (by decide)
      have e24 : ρ (.tmp 24) = vals 4 := (hρ 24).trans (slotJ [4] (by rw [hsz]; decide) (by kernel_rfl))
      clear hρ hF hcst sl1 sl2 fin
      exact opv_enter (by go_simp <;> rfl) (concat_iv hK hlen.out.2.1 hlen.out.2.2 ((hy.out.below hG).more hG.size) f24)
    · refine owes_v (Go.Op.call { callee := Go.Callee.value (Go.Operand.func 13), args := #[Go.Operand.tmp 20, Go.Operand.tmp 25], argTypes := #[25, 26] }) 37 [0, 5] (by kernel_rfl) (by kernel_rfl) (by kernel_rfl) rfl fun vals w1 ρ hG hF hρ hcst hfun => ?_
      have e20 : ρ (.tmp 20) = .agg #[.slice A N ca, .slice A2 M ca2] := ((hρ 20).trans (slotJ [0, 5] (by rw [hsz]; decide) (by kernel_rfl))).trans (hF 0 (by decide))
      have f25 : (IntsV (rs.map (·.t) ++ ys)) (vals 5) w1 := hF 5 (by decide)
      have e25 : ρ (.tmp 25) = vals 5 := (hρ 25).trans (slotJ [0, 5] (by rw [hsz]; decide) (by kernel_rfl))
      clear hρ hF hcst sl1 sl2 fin
      exact opv_enter (by go_simp <;> rfl) (reach_iv hN hM (hb.out.trans (hG.mono hb.out.size)) (Nat.le_trans hB.out hG.size) hg.out hs.out hlen.out.1 f25)
    · refine owes_v (Go.Op.call { callee := Go.Callee.builtin Go.Builtin.len, args := #[Go.Operand.tmp 26], argTypes := #[37] }) 3 [6] (by kernel_rfl) (by kernel_rfl) (by kernel_rfl) rfl fun vals w1 ρ hG hF hρ hcst hfun => ?_
      have f26 : (ReV B ns N (rs.map (·.t) ++ ys)) (vals 6) w1 := hF 6 (by decide)
      have e26 : ρ (.tmp 26) = vals 6 := (hρ 26).trans (slotJ [6] (by rw [hsz]; decide) (by kernel_rfl))
      obtain ⟨q26, L26, hx26, _⟩ := f26
      rw [hx26] at e26
      clear hρ hF hcst hfun sl1 sl2 fin
      exact opv_val (by go_simp <;> rfl) ⟨gw_self _, rfl⟩
    · refine owes_v (Go.Op.move (Go.Operand.const (Go.Value.int Go.IntKind.i64 0))) 3 [] (by kernel_rfl) (by kernel_rfl) (by kernel_rfl) rfl fun vals w1 ρ hG hF hρ hcst hfun => ?_
      clear hρ hF hfun sl1 sl2 fin
      exact opv_val (by go_simp <;> rfl) ⟨gw_self _, rfl⟩
  · intro vals w1 hG hF
    exact fin vals w1 hG (hF 6 (by decide +kernel)) (hF 7 (by decide +kernel)) (hF 8 (by decide +kernel))
end Go.Proofs.Ytidaimcndbhefaa
/- slices.Equal at numbers and roots. Conditions: lengths. -/
namespace Go.Proofs.Ytidaimcndbhefaa
set_option linter.unusedVariables false
set_option linter.unusedSimpArgs false
open Go.RowKit
set_option maxHeartbeats 1000000
set_option maxRecDepth 100000
theorem eqi_r (Q : Exit → Act → World → Prop) (a0 : Act) (w : World) (a b : Addr) (N c c2 i : Nat) (x y : Int) (r : Bool) (ha : a.block < w.heap.size) (hb : b.block < w.heap.size) (h1 : w.cell? (a.add i) = some (.int .i64 x)) (h2 : w.cell? (b.add i) = some (.int .i64 y)) (hr : (x != y) = r) (p1 : (0 : Int) ≤ (i : Int)) (p2 : (i : Int) < (N : Int)) (hsz : a0.tmps.size = 26) (sl0 : a0.tmps.getD 0 undef = .slice (some a) N c) (sl1 : a0.tmps.getD 1 undef = .slice (some b) N c2) (sl5 : a0.tmps.getD 5 undef = .int .i64 i)
    (fin : ∀ (vals : Nat → Value) (w1 : World), Below w.heap.size w w1 → (IsV (.bool r)) (vals 8) w1 → Q .normal (putD vals [16, 17, 18, 19, 20, 21, 22, 23, 24] 0 a0) w1) :
    (Code.region 6 (regIn Try.f47 6) true).wp Try.prog Q a0 w := by
  refine region_by (G := fun w w1 => Below w.heap.size w w1) [IsV (.slice (some a) N c),
    IsV (.int .i64 i),
    IsV (.pointer (some (a.add i))),
    IsV (.int .i64 x),
    IsV (.slice (some b) N c2),
    IsV (.int .i64 i),
    IsV (.pointer (some (b.add i))),
    IsV (.int .i64 y),
    IsV (.bool r)]
    [16, 17, 18, 19, 20, 21, 22, 23, 24] (by kernel_rfl) (Gw.drew _) Gw.trans (by rw [hsz]; kernel_rfl) (by kernel_rfl) ?_ ?_ ?_
  · intro f hf
    simp only [List.mem_cons, List.not_mem_nil, or_false] at hf
    rcases hf with rfl | rfl | rfl | rfl | rfl | rfl | rfl | rfl | rfl <;> intro v a b h g <;> first | exact IsV.mono h
  · refine ⟨?_, ?_, ?_, ?_, ?_, ?_, ?_, ?_, ?_, trivial⟩
    · exact owes_mv 0 (by kernel_rfl) (by kernel_rfl) (by kernel_rfl) sl0 (fun _ => rfl)
    · exact owes_mv 5 (by kernel_rfl) (by kernel_rfl) (by kernel_rfl) sl5 (fun _ => rfl)
    · refine owes_v (Go.Op.indexAddr 26 (Go.Operand.tmp 16) (Go.Operand.tmp 17)) 0 [0, 1] (by kernel_rfl) (by kernel_rfl) (by kernel_rfl) rfl fun vals w1 ρ hG hF hρ hcst hfun => ?_
      have e16 : ρ (.tmp 16) = .slice (some a) N c := ((hρ 16).trans (slotJ [0, 1] (by rw [hsz]; decide) (by kernel_rfl))).trans (hF 0 (by decide))
      have e17 : ρ (.tmp 17) = .int .i64 i := ((hρ 17).trans (slotJ [0, 1] (by rw [hsz]; decide) (by kernel_rfl))).trans (hF 1 (by decide))
      clear hρ hF hcst hfun sl0 sl1 sl5 fin
      exact opv_val (by go_simp <;> rfl) ⟨gw_self _, rfl⟩
    · refine owes_v (Go.Op.load 3 (Go.Operand.tmp 18)) 3 [2] (by kernel_rfl) (by kernel_rfl) (by kernel_rfl) rfl fun vals w1 ρ hG hF hρ hcst hfun => ?_
      have e18 : ρ (.tmp 18) = .pointer (some (a.add i)) := ((hρ 18).trans (slotJ [2] (by rw [hsz]; decide) (by kernel_rfl))).trans (hF 2 (by decide))
      have k := (hG.cell (p := a.add i) (by rw [add_block]; exact ha)).trans h1
      clear hρ hF hcst hfun sl0 sl1 sl5 fin
      exact opv_val (by go_simp <;> rfl) ⟨gw_self _, rfl⟩
    · exact owes_mv 1 (by kernel_rfl) (by kernel_rfl) (by kernel_rfl) sl1 (fun _ => rfl)
    · exact owes_mv 5 (by kernel_rfl) (by kernel_rfl) (by kernel_rfl) sl5 (fun _ => rfl)
    · refine owes_v (Go.Op.indexAddr 26 (Go.Operand.tmp 20) (Go.Operand.tmp 21)) 0 [4, 5] (by kernel_rfl) (by kernel_rfl) (by kernel_rfl) rfl fun vals w1 ρ hG hF hρ hcst hfun => ?_
      have e20 : ρ (.tmp 20) = .slice (some b) N c2 := ((hρ 20).trans (slotJ [4, 5] (by rw [hsz]; decide) (by kernel_rfl))).trans (hF 4 (by decide))
      have e21 : ρ (.tmp 21) = .int .i64 i := ((hρ 21).trans (slotJ [4, 5] (by rw [hsz]; decide) (by kernel_rfl))).trans (hF 5 (by decide))
      clear hρ hF hcst hfun sl0 sl1 sl5 fin
      exact opv_val (by go_simp <;> rfl) ⟨gw_self _, rfl⟩
    · refine owes_v (Go.Op.load 3 (Go.Operand.tmp 22)) 3 [6] (by kernel_rfl) (by kernel_rfl) (by kernel_rfl) rfl fun vals w1 ρ hG hF hρ hcst hfun => ?_
      have e22 : ρ (.tmp 22) = .pointer (some (b.add i)) := ((hρ 22).trans (slotJ [6] (by rw [hsz]; decide) (by kernel_rfl))).trans (hF 6 (by decide))
      have k := (hG.cell (p := b.add i) (by rw [add_block]; exact hb)).trans h2
      clear hρ hF hcst hfun sl0 sl1 sl5 fin
      exact opv_val (by go_simp <;> rfl) ⟨gw_self _, rfl⟩
    · refine owes_v (Go.Op.binOp Go.BinOp.neq 3 (Go.Operand.tmp 19) (Go.Operand.tmp 23) 3) 4 [3, 7] (by kernel_rfl) (by kernel_rfl) (by kernel_rfl) rfl fun vals w1 ρ hG hF hρ hcst hfun => ?_
      have e19 : ρ (.tmp 19) = .int .i64 x := ((hρ 19).trans (slotJ [3, 7] (by rw [hsz]; decide) (by kernel_rfl))).trans (hF 3 (by decide))
      have e23 : ρ (.tmp 23) = .int .i64 y := ((hρ 23).trans (slotJ [3, 7] (by rw [hsz]; decide) (by kernel_rfl))).trans (hF 7 (by decide))
      clear hρ hF hcst hfun sl0 sl1 sl5 fin
      exact opv_val (by go_simp <;> first | rfl | exact hr | rw [hr]) ⟨gw_self _, rfl⟩
  · intro vals w1 hG hF
    exact fin vals w1 hG (hF 8 (by decide +kernel))
theorem take_eq_succ {α : Type} {xs ys : List α} {k : Nat} (h1 : k < xs.length) (h2 : k < ys.length) (h : xs.take k = ys.take k) (e : xs[k] = ys[k]) : xs.take (k + 1) = ys.take (k + 1) := by
  rw [List.take_succ_eq_append_getElem h1, List.take_succ_eq_append_getElem h2, h, e]
theorem eqi_c (w : World) (A A2 : Option Addr) (c c2 : Nat) (xs ys : List Int) (hr : Rd iV w w.heap.size A xs) (hr2 : Rd iV w w.heap.size A2 ys) (hl : xs.length ≤ 1000000) : Calls Try.prog 47 #[.slice A xs.length c, .slice A2 ys.length c2] w (RetP (.bool (decide (xs = ys))) w) := by
  obtain ⟨N, hN⟩ : ∃ N, N = xs.length := ⟨_, rfl⟩
  obtain ⟨M, hM⟩ : ∃ M, M = ys.length := ⟨_, rfl⟩
  have HN := Lib.hid (And.intro hN hM)
  have HR := Lib.hid hr
  have HR2 := Lib.hid hr2
  have q3 : (N : Int) ≤ 1000000 := by omega
  rw [← hN, ← hM]
  by_cases he : N = M
  · subst he
    have HNe := Lib.hid (And.intro hN hM)
    clear hN hM hr hr2 hl HN
    obtain ⟨R, hRR⟩ : ∃ R, R = decide (xs = ys) := ⟨_, rfl⟩
    have HRR := Lib.hid hRR
    rw [← hRR]
    clear hRR
    go_enter Try.func47, Try.ntmps47
    go_wp2_with fail
    go_loopw [13] (fun i wr => ∃ k : Nat, k ≤ N ∧ i = .int .i64 k ∧ Hid (xs.take k = ys.take k) ∧ Below w.heap.size w wr) (fun i _ => N - (Go.RowKit.intOf i).toNat)
    case atStart => exact ⟨0, by omega, rfl, Lib.hid rfl, Below.refl _ _⟩
    case round =>
      obtain ⟨k, hk, rfl, ht, hB⟩ := hrel
      by_cases hlt : k < N
      · have p1 : (0 : Int) ≤ (k : Int) := by omega
        have p2 : (k : Int) < (N : Int) := by omega
        have h1 : k < xs.length := by rw [← HNe.out.1]; exact hlt
        have h2 : k < ys.length := by rw [← HNe.out.2]; exact hlt
        obtain ⟨ad, rfl, hadb, hcl⟩ := (HR.out.below hB) k h1
        obtain ⟨ad2, rfl, hadb2, hcl2⟩ := (HR2.out.below hB) k h2
        obtain ⟨x, hx⟩ : ∃ y, y = xs[k] := ⟨_, rfl⟩
        obtain ⟨y, hy⟩ : ∃ y, y = ys[k] := ⟨_, rfl⟩
        rw [← hx] at hcl
        rw [← hy] at hcl2
        unfold iV at hcl hcl2
        have hsz := hB.size
        have HS := Lib.hid (fun Q a0 r hr => eqi_r Q a0 wr ad ad2 N c c2 k x y r (by omega) (by omega) hcl hcl2 hr p1 p2)
        by_cases hxy : x = y
        · have hrf : (x != y) = false := by simp [hxy]
          have HT := Lib.hid (take_eq_succ h1 h2 ht.out (by rw [← hx, ← hy, hxy]))
          clear hx hy hadb hadb2 hcl hcl2 h1 h2 hsz hxy
          go_wp2_with fail
          refine HS.out _ _ false hrf rfl rfl rfl rfl ?_
          intro vals w4 hG h24
          unfold IsV at h24
          simp only [putD, Act.put, List.setIfInBounds_toArray, List.set_cons_zero, List.set_cons_succ, h24]
          have HB4 := Lib.hid (hB.trans (hG.mono hB.size))
          clear h24 hG HS hrf
          go_wp2_with fail
          go_roundw
          case rel => exact ⟨k + 1, by omega, by go_num, HT, HB4.out⟩
          case measure => (first | (simp [Go.RowKit.intOf]; done) | (simp [Go.RowKit.intOf]; omega))
        · have hrf : (x != y) = true := by simp [hxy]
          have hne : R = false := by
            rw [HRR.out, decide_eq_false_iff_not]
            intro e
            subst e
            exact hxy (hx.trans hy.symm)
          have HNE := Lib.hid hne
          clear hx hy hadb hadb2 hcl hcl2 h1 h2 hsz hxy hne
          go_wp2_with fail
          refine HS.out _ _ true hrf rfl rfl rfl rfl ?_
          intro vals w4 hG h24
          unfold IsV at h24
          simp only [putD, Act.put, List.setIfInBounds_toArray, List.set_cons_zero, List.set_cons_succ, h24]
          have HB4 := Lib.hid (hB.trans (hG.mono hB.size))
          clear h24 hG HS hrf
          go_wp2_with fail
          go_ret
          rw [HNE.out]
          exact ⟨rfl, HB4.out⟩
      · have hre : R = true := by
          rw [HRR.out, decide_eq_true_iff]
          have := ht.out
          rwa [show k = xs.length by rw [← HNe.out.1]; omega, List.take_length, show xs.length = ys.length by rw [← HNe.out.1, HNe.out.2], List.take_length] at this
        have HRE := Lib.hid hre
        clear hre
        go_wp2_with fail
        go_ret
        rw [HRE.out]
        exact ⟨rfl, hB⟩
  · have hne : decide (xs = ys) = false := by
      rw [decide_eq_false_iff_not]
      intro e
      exact he (by rw [hN, hM, e])
    rw [hne]
    have t1 : ((N : Int) != (M : Int)) = true := by simp; omega
    clear hN hM hr hr2 hl he hne HN HR HR2
    go_enter Try.func47, Try.ntmps47
    go_wp2_with fail
    go_ret
    exact ⟨rfl, Below.refl _ _⟩
end Go.Proofs.Ytidaimcndbhefaa
/- slices.Equal at roots. Conditions: lengths. -/
namespace Go.Proofs.Ytidaimcndbhefaa
set_option linter.unusedVariables false
set_option linter.unusedSimpArgs false
open Go.RowKit
set_option maxHeartbeats 1000000
set_option maxRecDepth 100000
def Rv.m (r : Rv) : ByteArray × Int := (r.s, r.t)
theorem Rv.m_inj {a b : Rv} (h : a.m = b.m) : a = b := by
  cases a; cases b; simp [Rv.m] at h; rw [h.1, h.2]
def sameR (xs ys : List Rv) : Bool := decide (xs.map Rv.m = ys.map Rv.m)
theorem map_inj {α β : Type} {f : α → β} (hf : ∀ a b, f a = f b → a = b) : ∀ {xs ys : List α}, xs.map f = ys.map f → xs = ys
  | [], [], _ => rfl
  | x :: xs, y :: ys, h => by
    simp only [List.map_cons, List.cons.injEq] at h
    rw [hf _ _ h.1, map_inj hf h.2]
theorem sameR_iff {xs ys : List Rv} : sameR xs ys = true ↔ xs = ys := by
  unfold sameR
  rw [decide_eq_true_iff]
  exact ⟨map_inj (fun _ _ => Rv.m_inj), fun e => by rw [e]⟩
theorem sameR_no {xs ys : List Rv} : sameR xs ys = false ↔ ¬ xs = ys := by
  rw [← sameR_iff]; simp
theorem listB_inj {s u : ByteArray} (e : s.toList = u.toList) : s = u := by
  rw [ByteArray.toList_eq, ByteArray.toList_eq] at e
  exact ByteArray.ext (Array.toList_inj.1 e)
theorem eqRt (s u : ByteArray) (x y : Int) (W : World) : (Op.equalIn 10000 58 (.agg #[.string s, .int .i64 x]) (.agg #[.string u, .int .i64 y])).run Try.prog W = .ok (decide (s = u) && decide (x = y)) W := by
  by_cases h1 : s = u <;> by_cases h2 : x = y
  all_goals go_simp
  exact fun e => h1 (listB_inj e)
theorem eqr_r (Q : Exit → Act → World → Prop) (a0 : Act) (w : World) (a b : Addr) (N c c2 i : Nat) (s u : ByteArray) (x y : Int) (r : Bool) (ha : a.block < w.heap.size) (hb : b.block < w.heap.size) (h1 : w.cell? (a.add (i * 2)) = some (.string s)) (h12 : w.cell? ⟨(a.add (i * 2)).block, (a.add (i * 2)).off + 1, none⟩ = some (.int .i64 x)) (h2 : w.cell? (b.add (i * 2)) = some (.string u)) (h22 : w.cell? ⟨(b.add (i * 2)).block, (b.add (i * 2)).off + 1, none⟩ = some (.int .i64 y)) (hr : (!(decide (s = u) && decide (x = y))) = r) (p1 : (0 : Int) ≤ (i : Int)) (p2 : (i : Int) < (N : Int)) (hsz : a0.tmps.size = 26) (sl0 : a0.tmps.getD 0 undef = .slice (some a) N c) (sl1 : a0.tmps.getD 1 undef = .slice (some b) N c2) (sl5 : a0.tmps.getD 5 undef = .int .i64 i)
    (fin : ∀ (vals : Nat → Value) (w1 : World), Below w.heap.size w w1 → (IsV (.bool r)) (vals 8) w1 → Q .normal (putD vals [16, 17, 18, 19, 20, 21, 22, 23, 24] 0 a0) w1) :
    (Code.region 6 (regIn Try.f40 6) true).wp Try.prog Q a0 w := by
  refine region_by (G := fun w w1 => Below w.heap.size w w1) [IsV (.slice (some a) N c),
    IsV (.int .i64 i),
    IsV (.pointer (some (a.add (i * 2)))),
    IsV (.agg #[.string s, .int .i64 x]),
    IsV (.slice (some b) N c2),
    IsV (.int .i64 i),
    IsV (.pointer (some (b.add (i * 2)))),
    IsV (.agg #[.string u, .int .i64 y]),
    IsV (.bool r)]
    [16, 17, 18, 19, 20, 21, 22, 23, 24] (by kernel_rfl) (Gw.drew _) Gw.trans (by rw [hsz]; kernel_rfl) (by kernel_rfl) ?_ ?_ ?_
  · intro f hf
    simp only [List.mem_cons, List.not_mem_nil, or_false] at hf
    rcases hf with rfl | rfl | rfl | rfl | rfl | rfl | rfl | rfl | rfl <;> intro v a b h g <;> first | exact IsV.mono h
  · refine ⟨?_, ?_, ?_, ?_, ?_, ?_, ?_, ?_, ?_, trivial⟩
    · exact owes_mv 0 (by kernel_rfl) (by kernel_rfl) (by kernel_rfl) sl0 (fun _ => rfl)
    · exact owes_mv 5 (by kernel_rfl) (by kernel_rfl) (by kernel_rfl) sl5 (fun _ => rfl)
    · refine owes_v (Go.Op.indexAddr 23 (Go.Operand.tmp 16) (Go.Operand.tmp 17)) 0 [0, 1] (by kernel_rfl) (by kernel_rfl) (by kernel_rfl) rfl fun vals w1 ρ hG hF hρ hcst hfun => ?_
      have e16 : ρ (.tmp 16) = .slice (some a) N c := ((hρ 16).trans (slotJ [0, 1] (by rw [hsz]; decide) (by kernel_rfl))).trans (hF 0 (by decide))
      have e17 : ρ (.tmp 17) = .int .i64 i := ((hρ 17).trans (slotJ [0, 1] (by rw [hsz]; decide) (by kernel_rfl))).trans (hF 1 (by decide))
      clear hρ hF hcst hfun sl0 sl1 sl5 fin
      exact opv_val (by go_simp <;> rfl) ⟨gw_self _, rfl⟩
    · refine owes_v (Go.Op.load 58 (Go.Operand.tmp 18)) 58 [2] (by kernel_rfl) (by kernel_rfl) (by kernel_rfl) rfl fun vals w1 ρ hG hF hρ hcst hfun => ?_
      have e18 : ρ (.tmp 18) = .pointer (some (a.add (i * 2))) := ((hρ 18).trans (slotJ [2] (by rw [hsz]; decide) (by kernel_rfl))).trans (hF 2 (by decide))
      have k := (hG.cell (p := a.add (i * 2)) (by rw [add_block]; exact ha)).trans h1
      have k2 := (hG.cell (p := ⟨(a.add (i * 2)).block, (a.add (i * 2)).off + 1, none⟩) (by show (a.add (i * 2)).block < _; rw [add_block]; exact ha)).trans h12
      clear hρ hF hcst hfun sl0 sl1 sl5 fin
      exact opv_val (by go_simp <;> rfl) ⟨gw_self _, rfl⟩
    · exact owes_mv 1 (by kernel_rfl) (by kernel_rfl) (by kernel_rfl) sl1 (fun _ => rfl)
    · exact owes_mv 5 (by kernel_rfl) (by kernel_rfl) (by kernel_rfl) sl5 (fun _ => rfl)
    · refine owes_v (Go.Op.indexAddr 23 (Go.Operand.tmp 20) (Go.Operand.tmp 21)) 0 [4, 5] (by kernel_rfl) (by kernel_rfl) (by kernel_rfl) rfl fun vals w1 ρ hG hF hρ hcst hfun => ?_
      have e20 : ρ (.tmp 20) = .slice (some b) N c2 := ((hρ 20).trans (slotJ [4, 5] (by rw [hsz]; decide) (by kernel_rfl))).trans (hF 4 (by decide))
      have e21 : ρ (.tmp 21) = .int .i64 i := ((hρ 21).trans (slotJ [4, 5] (by rw [hsz]; decide) (by kernel_rfl))).trans (hF 5 (by decide))
      clear hρ hF hcst hfun sl0 sl1 sl5 fin
      exact opv_val (by go_simp <;> rfl) ⟨gw_self _, rfl⟩
    · refine owes_v (Go.Op.load 58 (Go.Operand.tmp 22)) 58 [6] (by kernel_rfl) (by kernel_rfl) (by kernel_rfl) rfl fun vals w1 ρ hG hF hρ hcst hfun => ?_
      have e22 : ρ (.tmp 22) = .pointer (some (b.add (i * 2))) := ((hρ 22).trans (slotJ [6] (by rw [hsz]; decide) (by kernel_rfl))).trans (hF 6 (by decide))
      have k := (hG.cell (p := b.add (i * 2)) (by rw [add_block]; exact hb)).trans h2
      have k2 := (hG.cell (p := ⟨(b.add (i * 2)).block, (b.add (i * 2)).off + 1, none⟩) (by show (b.add (i * 2)).block < _; rw [add_block]; exact hb)).trans h22
      clear hρ hF hcst hfun sl0 sl1 sl5 fin
      exact opv_val (by go_simp <;> rfl) ⟨gw_self _, rfl⟩
    · refine owes_v (Go.Op.binOp Go.BinOp.neq 58 (Go.Operand.tmp 19) (Go.Operand.tmp 23) 58) 4 [3, 7] (by kernel_rfl) (by kernel_rfl) (by kernel_rfl) rfl fun vals w1 ρ hG hF hρ hcst hfun => ?_
      have e19 : ρ (.tmp 19) = .agg #[.string s, .int .i64 x] := ((hρ 19).trans (slotJ [3, 7] (by rw [hsz]; decide) (by kernel_rfl))).trans (hF 3 (by decide))
      have e23 : ρ (.tmp 23) = .agg #[.string u, .int .i64 y] := ((hρ 23).trans (slotJ [3, 7] (by rw [hsz]; decide) (by kernel_rfl))).trans (hF 7 (by decide))
      have q := eqRt s u x y
      clear hρ hF hcst hfun sl0 sl1 sl5 fin
      exact opv_val (by go_simp <;> first | rfl | exact hr | rw [hr]) ⟨gw_self _, rfl⟩
  · intro vals w1 hG hF
    exact fin vals w1 hG (hF 8 (by decide +kernel))
theorem eqr_c (w : World) (A A2 : Option Addr) (c c2 : Nat) (xs ys : List Rv) (hr : RoRow w w.heap.size A xs) (hr2 : RoRow w w.heap.size A2 ys) (hl : xs.length ≤ 1000000) : Calls Try.prog 40 #[.slice A xs.length c, .slice A2 ys.length c2] w (RetP (.bool (sameR xs ys)) w) := by
  obtain ⟨N, hN⟩ : ∃ N, N = xs.length := ⟨_, rfl⟩
  obtain ⟨M, hM⟩ : ∃ M, M = ys.length := ⟨_, rfl⟩
  have HN := Lib.hid (And.intro hN hM)
  have HR := Lib.hid hr
  have HR2 := Lib.hid hr2
  have q3 : (N : Int) ≤ 1000000 := by omega
  rw [← hN, ← hM]
  by_cases he : N = M
  · subst he
    have HNe := Lib.hid (And.intro hN hM)
    clear hN hM hr hr2 hl HN
    obtain ⟨R, hRR⟩ : ∃ R, R = sameR xs ys := ⟨_, rfl⟩
    have HRR := Lib.hid hRR
    rw [← hRR]
    clear hRR
    go_enter Try.func40, Try.ntmps40
    go_wp2_with fail
    go_loopw [13] (fun i wr => ∃ k : Nat, k ≤ N ∧ i = .int .i64 k ∧ Hid (xs.take k = ys.take k) ∧ Below w.heap.size w wr) (fun i _ => N - (Go.RowKit.intOf i).toNat)
    case atStart => exact ⟨0, by omega, rfl, Lib.hid rfl, Below.refl _ _⟩
    case round =>
      obtain ⟨k, hk, rfl, ht, hB⟩ := hrel
      by_cases hlt : k < N
      · have p1 : (0 : Int) ≤ (k : Int) := by omega
        have p2 : (k : Int) < (N : Int) := by omega
        have h1 : k < xs.length := by rw [← HNe.out.1]; exact hlt
        have h2 : k < ys.length := by rw [← HNe.out.2]; exact hlt
        obtain ⟨x, hx⟩ : ∃ y, y = xs[k] := ⟨_, rfl⟩
        obtain ⟨y, hy⟩ : ∃ y, y = ys[k] := ⟨_, rfl⟩
        obtain ⟨ad, rfl, hadb, hcl, hcl'⟩ : ∃ ad, A = some ad ∧ ad.block < w.heap.size ∧ wr.cell? (ad.add (k * 2)) = some (.string x.s) ∧ wr.cell? ⟨(ad.add (k * 2)).block, (ad.add (k * 2)).off + 1, none⟩ = some (.int .i64 x.t) := by
          obtain ⟨ad, e, h3, h1, h2⟩ := (HR.out.below hB) k h1
          exact ⟨ad, e, h3, by rw [hx]; exact h1, by rw [hx]; exact h2⟩
        obtain ⟨ad2, rfl, hadb2, hcl2, hcl2'⟩ : ∃ ad, A2 = some ad ∧ ad.block < w.heap.size ∧ wr.cell? (ad.add (k * 2)) = some (.string y.s) ∧ wr.cell? ⟨(ad.add (k * 2)).block, (ad.add (k * 2)).off + 1, none⟩ = some (.int .i64 y.t) := by
          obtain ⟨ad, e, h3, h1, h2⟩ := (HR2.out.below hB) k h2
          exact ⟨ad, e, h3, by rw [hy]; exact h1, by rw [hy]; exact h2⟩
        have hsz := hB.size
        have HS := Lib.hid (fun Q a0 r hr => eqr_r Q a0 wr ad ad2 N c c2 k x.s y.s x.t y.t r (by omega) (by omega) hcl hcl' hcl2 hcl2' hr p1 p2)
        by_cases hxy : x = y
        · have hrf : (!(decide (x.s = y.s) && decide (x.t = y.t))) = false := by simp [hxy]
          have HT := Lib.hid (take_eq_succ h1 h2 ht.out (by rw [← hx, ← hy, hxy]))
          clear hx hy hadb hadb2 hcl hcl2 hcl' hcl2' h1 h2 hsz hxy
          go_wp2_with fail
          refine HS.out _ _ false hrf rfl rfl rfl rfl ?_
          intro vals w4 hG h24
          unfold IsV at h24
          simp only [putD, Act.put, List.setIfInBounds_toArray, List.set_cons_zero, List.set_cons_succ, h24]
          have HB4 := Lib.hid (hB.trans (hG.mono hB.size))
          clear h24 hG HS hrf
          go_wp2_with fail
          go_roundw
          case rel => exact ⟨k + 1, by omega, by go_num, HT, HB4.out⟩
          case measure => (first | (simp [Go.RowKit.intOf]; done) | (simp [Go.RowKit.intOf]; omega))
        · have hrf : (!(decide (x.s = y.s) && decide (x.t = y.t))) = true := by
            cases x; cases y; simp at hxy ⊢; exact (Classical.em _).elim (fun e => .inr (hxy e)) .inl
          have hne : R = false := by
            rw [HRR.out, sameR_no]
            intro e
            subst e
            exact hxy (hx.trans hy.symm)
          have HNE := Lib.hid hne
          clear hx hy hadb hadb2 hcl hcl2 hcl' hcl2' h1 h2 hsz hxy hne
          go_wp2_with fail
          refine HS.out _ _ true hrf rfl rfl rfl rfl ?_
          intro vals w4 hG h24
          unfold IsV at h24
          simp only [putD, Act.put, List.setIfInBounds_toArray, List.set_cons_zero, List.set_cons_succ, h24]
          have HB4 := Lib.hid (hB.trans (hG.mono hB.size))
          clear h24 hG HS hrf
          go_wp2_with fail
          go_ret
          rw [HNE.out]
          exact ⟨rfl, HB4.out⟩
      · have hre : R = true := by
          rw [HRR.out, sameR_iff]
          have := ht.out
          rwa [show k = xs.length by rw [← HNe.out.1]; omega, List.take_length, show xs.length = ys.length by rw [← HNe.out.1, HNe.out.2], List.take_length] at this
        have HRE := Lib.hid hre
        clear hre
        go_wp2_with fail
        go_ret
        rw [HRE.out]
        exact ⟨rfl, hB⟩
  · have hne : sameR xs ys = false := by
      rw [sameR_no]
      intro e
      exact he (by rw [hN, hM, e])
    rw [hne]
    have t1 : ((N : Int) != (M : Int)) = true := by simp; omega
    clear hN hM hr hr2 hl he hne HN HR HR2
    go_enter Try.func40, Try.ntmps40
    go_wp2_with fail
    go_ret
    exact ⟨rfl, Below.refl _ _⟩
end Go.Proofs.Ytidaimcndbhefaa
/- What bytes.Equal answers. No conditions. -/
namespace Go.Proofs.Ytidaimcndbhefaa
set_option linter.unusedVariables false
set_option linter.unusedSimpArgs false
open Go.RowKit
set_option maxRecDepth 100000
set_option maxHeartbeats 400000
theorem equal_c (A A2 : Option Addr) (c c2 : Nat) (xs ys : List (BitVec 8)) (w : World) (h1 : Rd b8 w w.heap.size A xs) (h2 : Rd b8 w w.heap.size A2 ys) : Calls Try.prog 48 #[.slice A xs.length c, .slice A2 ys.length c2] w fun e w' => e = .returned (.bool (decide (xs = ys))) ∧ w' = w := by
  have k1 := str_conv xs A c _ w h1
  have k2 := str_conv ys A2 c2 _ w h2
  have HE := Lib.hid (show ((strB xs).toList == (strB ys).toList) = decide (xs = ys) from by
    by_cases h : xs = ys
    · subst h; simp
    · have hne : ¬ (strB xs).toList = (strB ys).toList := fun e => h (strB_inj (by
        rw [ByteArray.toList_eq, ByteArray.toList_eq] at e
        exact ByteArray.ext (Array.toList_inj.1 e)))
      simp [h, hne])
  clear h1 h2
  go_enter Try.func48, Try.ntmps48
  go_wp2_with fail
  go_ret
  exact ⟨by simpa using HE.out, rfl⟩
end Go.Proofs.Ytidaimcndbhefaa
/- graph.sameNode, graph.Equal. Conditions: lengths. -/
namespace Go.Proofs.Ytidaimcndbhefaa
set_option linter.unusedVariables false
set_option linter.unusedSimpArgs false
open Go.RowKit
def Nv.m (x : Nv) : List Int × List (BitVec 8) := (x.ps, x.bs)
def sameN (x y : Nv) : Bool := decide (x.m = y.m)
def sameNs (xs ys : List Nv) : Bool := decide (xs.map Nv.m = ys.map Nv.m)
def sameG (a b : Gv) : Bool := sameR a.r b.r && sameNs a.n b.n
set_option maxHeartbeats 1000000
set_option maxRecDepth 100000
theorem sameNode_c (w : World) (x y : Nv) (hx : x.At w w.heap.size) (hy : y.At w w.heap.size) (hl : x.ps.length ≤ 1000000) : Calls Try.prog 42 #[x.v, y.v] w (RetP (.bool (sameN x y)) w) := by
  have HEi := Lib.hid (fun W (hb : Below w.heap.size w W) => eqi_c W x.A y.A x.c y.c x.ps y.ps ((hx.p.below hb).more hb.size) ((hy.p.below hb).more hb.size) hl)
  have HEb := Lib.hid (fun W (hb : Below w.heap.size w W) => equal_c x.D y.D x.d y.d x.bs y.bs W ((hx.b.below hb).more hb.size) ((hy.b.below hb).more hb.size))
  obtain ⟨A, ca, D, da, ps, bs⟩ := x
  obtain ⟨A2, ca2, D2, da2, ps2, bs2⟩ := y
  unfold sameN Nv.m Nv.v Nv.vp Nv.vd
  simp only at HEi HEb ⊢
  obtain ⟨n, hn⟩ : ∃ n, n = ps.length := ⟨_, rfl⟩
  obtain ⟨m, hm⟩ : ∃ m, m = bs.length := ⟨_, rfl⟩
  obtain ⟨n2, hn2⟩ : ∃ n, n = ps2.length := ⟨_, rfl⟩
  obtain ⟨m2, hm2⟩ : ∃ m, m = bs2.length := ⟨_, rfl⟩
  rw [← hn, ← hn2] at HEi
  rw [← hm, ← hm2] at HEb
  rw [← hn, ← hn2, ← hm, ← hm2]
  by_cases e1 : ps = ps2
  · have e2 : decide (ps = ps2) = true := by simp [e1]
    rw [e2] at HEi
    have e3 : decide ((ps, bs) = (ps2, bs2)) = decide (bs = bs2) := by simp [e1]
    rw [e3]
    clear hx hy hl hn hm hn2 hm2 e1 e2 e3
    obtain ⟨r, hr⟩ : ∃ r, r = decide (bs = bs2) := ⟨_, rfl⟩
    rw [← hr] at HEb ⊢
    clear hr
    go_enter Try.func42, Try.ntmps42
    go_wp2_with fail
    refine Calls.mono (HEi.out _ (by repeat (first | with_reducible assumption | with_reducible exact Below.refl _ _ | with_reducible apply bdN | with_reducible apply Below.drew | with_reducible refine Below.alloc ?_ (by simp) _ | with_reducible refine Below.setCell ?_ (by simp) _))) ?_
    rintro r1 w1 ⟨rfl, b1⟩
    have hb := Lib.hid (boxed2 (k := 0) b1)
    obtain ⟨k1, k2, k3⟩ := hb.out
    have c0 := k1.two.2
    have c1 := k2.two.2
    have K3 := Lib.hid k3
    clear b1 k1 k2 k3 hb
    go_wp2_with fail
    refine Calls.mono (HEb.out _ K3.out) ?_
    rintro r2 w2 ⟨rfl, rfl⟩
    go_wp2_with fail
    go_ret
    exact ⟨rfl, K3.out⟩
  · have e2 : decide (ps = ps2) = false := by simp [e1]
    rw [e2] at HEi
    have e3 : decide ((ps, bs) = (ps2, bs2)) = false := by simp [e1]
    rw [e3]
    clear hx hy hl hn hm hn2 hm2 e1 e2 e3
    go_enter Try.func42, Try.ntmps42
    go_wp2_with fail
    refine Calls.mono (HEi.out _ (by repeat (first | with_reducible assumption | with_reducible exact Below.refl _ _ | with_reducible apply bdN | with_reducible apply Below.drew | with_reducible refine Below.alloc ?_ (by simp) _ | with_reducible refine Below.setCell ?_ (by simp) _))) ?_
    rintro r1 w1 ⟨rfl, b1⟩
    have hb := Lib.hid (boxed2 (k := 0) b1)
    have K3 := Lib.hid hb.out.2.2
    clear b1 hb
    go_wp2_with fail
    go_ret
    exact ⟨rfl, K3.out⟩
theorem sameNs_iff {xs ys : List Nv} : sameNs xs ys = true ↔ xs.map Nv.m = ys.map Nv.m := by unfold sameNs; exact decide_eq_true_iff
theorem sameNs_no {xs ys : List Nv} : sameNs xs ys = false ↔ ¬ xs.map Nv.m = ys.map Nv.m := by unfold sameNs; exact decide_eq_false_iff_not
theorem eqf_c (w : World) (A A2 : Option Addr) (c c2 : Nat) (xs ys : List Nv) (hr : NRow w w.heap.size A xs) (hr2 : NRow w w.heap.size A2 ys) (hl : xs.length ≤ 1000000) (hs : ∀ x ∈ xs, x.ps.length ≤ 1000000) : Calls Try.prog 41 #[.slice A xs.length c, .slice A2 ys.length c2, .func (.func 42) #[] #[]] w (RetP (.bool (sameNs xs ys)) w) := by
  obtain ⟨N, hN⟩ : ∃ N, N = xs.length := ⟨_, rfl⟩
  obtain ⟨M, hM⟩ : ∃ M, M = ys.length := ⟨_, rfl⟩
  have HN := Lib.hid (And.intro hN hM)
  have HR := Lib.hid hr
  have HR2 := Lib.hid hr2
  have HSm := Lib.hid hs
  have q3 : (N : Int) ≤ 1000000 := by omega
  rw [← hN, ← hM]
  by_cases he : N = M
  · subst he
    have HNe := Lib.hid (And.intro hN hM)
    clear hN hM hr hr2 hl HN hs
    obtain ⟨R, hRR⟩ : ∃ R, R = sameNs xs ys := ⟨_, rfl⟩
    have HRR := Lib.hid hRR
    rw [← hRR]
    clear hRR
    go_enter Try.func41, Try.ntmps41
    go_wp2_with fail
    go_loopw [17] (fun i wr => ∃ k : Nat, k ≤ N ∧ i = .int .i64 k ∧ Hid ((xs.map Nv.m).take k = (ys.map Nv.m).take k) ∧ Below w.heap.size w wr) (fun i _ => N - (Go.RowKit.intOf i).toNat)
    case atStart => exact ⟨0, by omega, rfl, Lib.hid rfl, Below.refl _ _⟩
    case round =>
      obtain ⟨k, hk, rfl, ht, hB⟩ := hrel
      by_cases hlt : k < N
      · have p1 : (0 : Int) ≤ (k : Int) := by omega
        have p2 : (k : Int) < (N : Int) := by omega
        have h1 : k < xs.length := by rw [← HNe.out.1]; exact hlt
        have h2 : k < ys.length := by rw [← HNe.out.2]; exact hlt
        obtain ⟨x, hx⟩ : ∃ y, y = xs[k] := ⟨_, rfl⟩
        obtain ⟨y, hy⟩ : ∃ y, y = ys[k] := ⟨_, rfl⟩
        obtain ⟨ad, rfl, hcl, hcl', hxa⟩ : ∃ ad, A = some ad ∧ wr.cell? (ad.add (k * 2)) = some x.vp ∧ wr.cell? ⟨(ad.add (k * 2)).block, (ad.add (k * 2)).off + 1, none⟩ = some x.vd ∧ x.At wr wr.heap.size := by
          obtain ⟨ad, e, h3, h1, h2, h4⟩ := (HR.out.below hB) k h1
          exact ⟨ad, e, by rw [hx]; exact h1, by rw [hx]; exact h2, by rw [hx]; exact h4.more hB.size⟩
        obtain ⟨ad2, rfl, hcl2, hcl2', hya⟩ : ∃ ad, A2 = some ad ∧ wr.cell? (ad.add (k * 2)) = some y.vp ∧ wr.cell? ⟨(ad.add (k * 2)).block, (ad.add (k * 2)).off + 1, none⟩ = some y.vd ∧ y.At wr wr.heap.size := by
          obtain ⟨ad, e, h3, h1, h2, h4⟩ := (HR2.out.below hB) k h2
          exact ⟨ad, e, by rw [hy]; exact h1, by rw [hy]; exact h2, by rw [hy]; exact h4.more hB.size⟩
        have hsz := hB.size
        have hxl := HSm.out x (by rw [hx]; exact List.getElem_mem _)
        have HC := Lib.hid (fun W (hb : Below wr.heap.size wr W) => sameNode_c W x y (hxa.up hb) (hya.up hb) hxl)
        have hnx : sameN x y = true → (xs.map Nv.m).take (k + 1) = (ys.map Nv.m).take (k + 1) := fun e => by
          refine take_eq_succ (by simpa using h1) (by simpa using h2) ht.out ?_
          rw [List.getElem_map, List.getElem_map, ← hx, ← hy]
          exact decide_eq_true_iff.1 e
        have hno : sameN x y = false → R = false := fun e => by
          rw [HRR.out, sameNs_no]
          intro e2
          have e3 : (xs.map Nv.m)[k]? = (ys.map Nv.m)[k]? := by rw [e2]
          rw [List.getElem?_map, List.getElem?_map, List.getElem?_eq_getElem h1, List.getElem?_eq_getElem h2, ← hx, ← hy] at e3
          exact decide_eq_false_iff_not.1 e (by simpa using e3)
        have HNX := Lib.hid (And.intro hnx hno)
        obtain ⟨r, hr⟩ : ∃ r, r = sameN x y := ⟨_, rfl⟩
        rw [← hr] at HC HNX
        obtain ⟨xA, xc, xD, xd, xps, xbs⟩ := x
        obtain ⟨yA, yc, yD, yd, yps, ybs⟩ := y
        unfold Nv.v Nv.vp Nv.vd at HC
        unfold Nv.vp at hcl hcl2
        unfold Nv.vd at hcl' hcl2'
        simp only at HC hcl hcl2 hcl' hcl2'
        obtain ⟨n1, hn1⟩ : ∃ n, n = xps.length := ⟨_, rfl⟩
        obtain ⟨n2, hn2⟩ : ∃ n, n = xbs.length := ⟨_, rfl⟩
        obtain ⟨n3, hn3⟩ : ∃ n, n = yps.length := ⟨_, rfl⟩
        obtain ⟨n4, hn4⟩ : ∃ n, n = ybs.length := ⟨_, rfl⟩
        rw [← hn1, ← hn2, ← hn3, ← hn4] at HC
        rw [← hn1] at hcl
        rw [← hn2] at hcl'
        rw [← hn3] at hcl2
        rw [← hn4] at hcl2'
        have hlad := cell_lt hcl2
        have hlad' : (ad2.add (k * 2)).block < wr.heap.size := hlad
        have HBB := Lib.hid hB
        clear hx hy h1 h2 hnx hno hr hxa hya hxl hn1 hn2 hn3 hn4 hB ht hlad
        cases r with
        | true =>
          have HNT := Lib.hid (HNX.out.1 rfl)
          go_wp2_with fail
          refine Calls.mono (HC.out _ (by repeat (first | with_reducible assumption | with_reducible exact Below.refl _ _ | with_reducible apply bdN | with_reducible apply Below.drew | with_reducible refine Below.alloc ?_ (by simp) _ | with_reducible refine Below.setCell ?_ (by simp) _))) ?_
          rintro r1 w1 ⟨rfl, b1⟩
          have HB4 := Lib.hid (HBB.out.trans ((boxed2 (k := 0) b1).2.2.mono hsz))
          clear b1 HC
          go_wp2_with fail
          go_roundw
          case rel => exact ⟨k + 1, by omega, by go_num, HNT, HB4.out⟩
          case measure => (first | (simp [Go.RowKit.intOf]; done) | (simp [Go.RowKit.intOf]; omega))
        | false =>
          have HNE := Lib.hid (HNX.out.2 rfl)
          go_wp2_with fail
          refine Calls.mono (HC.out _ (by repeat (first | with_reducible assumption | with_reducible exact Below.refl _ _ | with_reducible apply bdN | with_reducible apply Below.drew | with_reducible refine Below.alloc ?_ (by simp) _ | with_reducible refine Below.setCell ?_ (by simp) _))) ?_
          rintro r1 w1 ⟨rfl, b1⟩
          have HB4 := Lib.hid (HBB.out.trans ((boxed2 (k := 0) b1).2.2.mono hsz))
          clear b1 HC
          go_wp2_with fail
          go_ret
          rw [HNE.out]
          exact ⟨rfl, HB4.out⟩
      · have hre : R = true := by
          rw [HRR.out, sameNs_iff]
          have := ht.out
          rwa [List.take_of_length_le (by rw [List.length_map, ← HNe.out.1]; omega), List.take_of_length_le (by rw [List.length_map, ← HNe.out.2]; omega)] at this
        have HRE := Lib.hid hre
        clear hre
        go_wp2_with fail
        go_ret
        rw [HRE.out]
        exact ⟨rfl, hB⟩
  · have hne : sameNs xs ys = false := by
      rw [sameNs_no]
      intro e
      have := congrArg List.length e
      rw [List.length_map, List.length_map] at this
      exact he (by rw [hN, hM, this])
    rw [hne]
    have t1 : ((N : Int) != (M : Int)) = true := by simp; omega
    clear hN hM hr hr2 hl he hne HN HR HR2 hs HSm
    go_enter Try.func41, Try.ntmps41
    go_wp2_with fail
    go_ret
    exact ⟨rfl, Below.refl _ _⟩
theorem equalG_c (w : World) (a b : Gv) (ha : a.At w w.heap.size) (hb : b.At w w.heap.size) (hs : a.Small) : Calls Try.prog 24 #[a.v, b.v] w (RetP (.bool (sameG a b)) w) := by
  have HEr := Lib.hid (fun W (h : Below w.heap.size w W) => eqr_c W a.A2 b.A2 a.c2 b.c2 a.r b.r ((ha.r.below h).more h.size) ((hb.r.below h).more h.size) hs.2.1)
  have HEn := Lib.hid (fun W (h : Below w.heap.size w W) => eqf_c W a.A b.A a.c b.c a.n b.n ((ha.n.below h).more h.size) ((hb.n.below h).more h.size) hs.1 (fun x hx => (hs.2.2 x hx).1))
  obtain ⟨A, c, A2, c2, ns, rs⟩ := a
  obtain ⟨B, d, B2, d2, ms, ts⟩ := b
  unfold sameG Gv.v Gv.vn Gv.vr
  simp only at HEr HEn ⊢
  obtain ⟨n, hn⟩ : ∃ n, n = ns.length := ⟨_, rfl⟩
  obtain ⟨m, hm⟩ : ∃ m, m = rs.length := ⟨_, rfl⟩
  obtain ⟨n2, hn2⟩ : ∃ n, n = ms.length := ⟨_, rfl⟩
  obtain ⟨m2, hm2⟩ : ∃ m, m = ts.length := ⟨_, rfl⟩
  rw [← hn, ← hn2] at HEn
  rw [← hm, ← hm2] at HEr
  rw [← hn, ← hn2, ← hm, ← hm2]
  obtain ⟨r1, hr1⟩ : ∃ r, r = sameR rs ts := ⟨_, rfl⟩
  obtain ⟨r2, hr2⟩ : ∃ r, r = sameNs ns ms := ⟨_, rfl⟩
  rw [← hr1] at HEr ⊢
  rw [← hr2] at HEn ⊢
  clear ha hb hs hn hm hn2 hm2 hr1 hr2
  cases r1 with
  | true =>
    go_enter Try.func24, Try.ntmps24
    go_wp2_with fail
    refine Calls.mono (HEr.out _ (by repeat (first | with_reducible assumption | with_reducible exact Below.refl _ _ | with_reducible apply bdN | with_reducible apply Below.drew | with_reducible refine Below.alloc ?_ (by simp) _ | with_reducible refine Below.setCell ?_ (by simp) _))) ?_
    rintro r1 w1 ⟨rfl, b1⟩
    have hb := Lib.hid (boxed2 (k := 0) b1)
    obtain ⟨k1, k2, k3⟩ := hb.out
    have c0 := k1.two.1
    have c1 := k2.two.1
    have K3 := Lib.hid k3
    clear b1 k1 k2 k3 hb
    go_wp2_with fail
    refine Calls.mono (HEn.out _ K3.out) ?_
    rintro r2 w2 ⟨rfl, b2⟩
    go_wp2_with fail
    go_ret
    exact ⟨rfl, K3.out.trans (b2.mono K3.out.size)⟩
  | false =>
    go_enter Try.func24, Try.ntmps24
    go_wp2_with fail
    refine Calls.mono (HEr.out _ (by repeat (first | with_reducible assumption | with_reducible exact Below.refl _ _ | with_reducible apply bdN | with_reducible apply Below.drew | with_reducible refine Below.alloc ?_ (by simp) _ | with_reducible refine Below.setCell ?_ (by simp) _))) ?_
    rintro r1 w1 ⟨rfl, b1⟩
    have hb := Lib.hid (boxed2 (k := 0) b1)
    have K3 := Lib.hid hb.out.2.2
    clear b1 hb
    go_wp2_with fail
    go_ret
    exact ⟨rfl, K3.out⟩
end Go.Proofs.Ytidaimcndbhefaa
/- A region whose operations are loads and reckonings, which float, and a row of others (calls, appends, stores) that wait for each other: the floating ones have known values, the row is straight code. No conditions. -/
namespace Go.Proofs.Ytidaimcndbhefaa
set_option linter.unusedVariables false
set_option linter.unusedSimpArgs false
open Go.RowKit
section
variable {P : Program} {ops : Array Oper} {Q : Exit → Act → World → Prop} {a0 : Act} {w0 : World}
/-- Operations one behind the other; W holds of each world between. -/
def SpineW (P : Program) (ops : Array Oper) (Q : Exit → Act → World → Prop) (W : World → Prop) : List Nat → Act → World → Prop
  | [], a, w => Q .normal a w
  | i :: is, a, w => ∃ o, ops[i]? = some o ∧ o.guard = none ∧ Oper.wp P o a w (fun a' w' => a'.defers = a.defers ∧ W w' ∧ SpineW P ops Q W is a' w') NoQ
def operandsOf (ops : Array Oper) (i : Nat) : List Tmp := match ops[i]? with
  | none => []
  | some o => o.op.operands.toList.filterMap fun | .tmp t => some t | _ => none
def chainB (ops : Array Oper) : List Nat → Bool
  | x :: y :: l => waitsB ops y x && chainB ops (y :: l)
  | _ => true
def slotsB (ops : Array Oper) (fl : List Nat) (j : Nat) : Bool := match dstOf ops j with
  | none => false
  | some d => slotB ops fl j d
def spineB (ops : Array Oper) (sp fl : List Nat) : Bool :=
  chainB ops sp && ((List.range ops.size).all fun i => sp.contains i || fl.contains i) && (fl.all fun j => !sp.contains j && decide (j < ops.size) && ((ops[j]?).bind (·.guard)).isNone && slotsB ops fl j) && (sp.all fun i => decide (i < ops.size)) && decide (sp.Nodup) &&
  (fl.all fun i => (operandsOf ops i).all fun t => (fl.any fun j => waitsB ops i j && dstOf ops j == some t) || ((fl.all fun j => dstOf ops j != some t) && sp.all fun j => dstOf ops j != some t || waitsB ops j i)) &&
  (sp.all fun i => (operandsOf ops i).all fun t => fl.all fun j => dstOf ops j != some t || waitsB ops i j)
theorem wp_two {o : Oper} {A a : Act} {w : World} {K K2 : Act → World → Prop} (he : execOp A.eval o = execOp a.eval o)
    (h : Oper.wp P o A w (fun a' w' => a'.defers = A.defers ∧ K a' w') NoQ) (hk : ∀ v w', K (A.put o.dst v) w' → K2 (a.put o.dst v) w') : Oper.wp P o a w K2 Q := by
  unfold Oper.wp at *
  rw [← he]
  generalize (execOp A.eval o).run P w = r at *
  cases r with
  | ok n w' =>
    cases n <;> simp only [Oper.upon] at h ⊢
    case value u => exact hk _ _ h.2
    case skip => exact hk _ _ h.2
    case defer d =>
      exfalso
      have := h.1
      cases hd : o.dst <;> simp [Act.put, hd] at this
    case enter f args =>
      refine Calls.mono h fun e w'' he => ?_
      cases e with
      | returned u => exact hk _ _ he.2
      | panicked c => exact he.elim
      | outgrown => obtain ⟨_, _, hf⟩ := he; exact hf.elim
    case row row args => exact Rows.mono h fun u w'' he => hk _ _ he.2
  | halt x w' =>
    cases x <;> simp only [Oper.upon] at h ⊢
    case panic u => exact h.elim
def SpineQ (df : List Deferred) (W : World → Prop) (next : Act → World → Prop) : Exit → Act → World → Prop
  | .normal, a, w => a.defers = df ∧ W w ∧ next a w
  | _, _, _ => False
/-- One of the row, as straight code. -/
theorem spine_list {i : Nat} {is : List Nat} {W : World → Prop} {d : Option Tmp} {op : Op} {type : TypeId} {a : Act} {w : World} (ho : (ops[i]?).map (fun o => (o.op, o.type)) = some (op, type)) (hdo : (ops[i]?).map (·.dst) = some d) (hg : (ops[i]?).bind (·.guard) = none)
    (h : wpList P #[{ dst := d, op, type, pos := "", after := #[], guard := none }] (SpineQ a.defers W (SpineW P ops Q W is)) [{ dst := d, op, type, pos := "", after := #[], guard := none }] a w) : SpineW P ops Q W (i :: is) a w := by
  cases hi : ops[i]? with
  | none => rw [hi] at ho; cases ho
  | some o =>
    rw [hi] at ho hdo hg
    obtain ⟨dst, op', type', pos, after, guard⟩ := o
    simp only [Option.map_some, Option.some.injEq, Prod.mk.injEq] at ho hdo
    obtain ⟨rfl, rfl⟩ := ho
    subst hdo
    simp only [Option.bind_some] at hg
    subst hg
    refine ⟨_, hi, rfl, ?_⟩
    unfold wpList at h
    simp only [Region.wanted, if_true] at h
    have he : execOp a.eval { dst, op := op', type := type', pos, after, guard := none } = execOp a.eval { dst, op := op', type := type', pos := "", after := #[], guard := none } := by
      cases op' <;> rfl
    rcases h with h | ⟨_, h2⟩
    · unfold Oper.wp at h ⊢
      rw [he]
      generalize (execOp a.eval { dst, op := op', type := type', pos := "", after := #[], guard := none }).run P w = r at *
      cases r with
      | ok n w' =>
        cases n <;> simp only [Oper.upon, wpList] at h ⊢
        case value u => exact h
        case skip => exact h
        case defer u => exact h
        case enter f args =>
          refine Calls.mono h fun e w'' he => ?_
          cases e with
          | returned u => exact he
          | panicked c => exact he.elim
          | outgrown => obtain ⟨_, _, hf⟩ := he; exact hf.elim
        case row row args => exact h
      | halt x w' =>
        cases x <;> simp only [Oper.upon] at h ⊢
        case panic u => exact h.elim
    · obtain ⟨_, _, h3⟩ := h2
      exact h3.elim
theorem regB_plain {size : Nat} (h : regB ops size = true) {i : Nat} {o : Oper} (ho : ops[i]? = some o) : match o.op with | .defer _ => False | .select .. => False | _ => True := by
  unfold regB at h
  rw [List.all_eq_true] at h
  have h1 := h i (List.mem_range.2 (Array.getElem?_eq_some_iff.1 ho).1)
  rw [ho] at h1
  simp only [Bool.and_eq_true] at h1
  have h2 := h1.2
  revert h2
  cases o.op <;> simp
theorem chain_at {l : List Nat} : ∀ {d : List Nat} {x y : Nat}, chainB ops (d ++ x :: y :: l) = true → waitsB ops y x = true := by
  intro d
  induction d with
  | nil => intro x y h; unfold chainB at h; rw [List.nil_append] at h; simp only [Bool.and_eq_true] at h; exact h.1
  | cons z d ih =>
    intro x y h
    apply ih (x := x) (y := y)
    cases d with
    | nil => simp only [List.cons_append, List.nil_append, chainB, Bool.and_eq_true] at h ⊢; exact h.2
    | cons u d => simp only [List.cons_append, chainB, Bool.and_eq_true] at h ⊢; exact h.2
theorem region_spine {id : Nat} (sp fl : List Nat) (c : Nat → Value) (W : World → Prop) (hm : P.follows .mixedOrders = true) (hreg : regB ops a0.tmps.size = true) (hsp : spineB ops sp fl = true) (hW : W w0.drew)
    (hF : ∀ i ∈ fl, ∀ w, W w → ∃ o, ops[i]? = some o ∧ (execOp (putL ops c fl a0).eval o).run P w = .ok (.value (c i)) w)
    (fin : SpineW P ops Q W sp (putL ops c fl a0) w0.drew) : (Code.region id ops true).wp P Q a0 w0 := by
  unfold spineB at hsp
  simp only [Bool.and_eq_true, List.all_eq_true, List.mem_range, decide_eq_true_eq, Bool.or_eq_true, List.contains_iff_mem, Bool.not_eq_true', Bool.not_eq_eq_eq_not, Bool.not_true] at hsp
  obtain ⟨⟨⟨⟨⟨⟨hch, hcov⟩, hfl⟩, hspl⟩, hnd⟩, hfo⟩, hso⟩ := hsp
  have hflsp : ∀ j ∈ fl, j ∉ sp := fun j hj h => by
    have := (hfl j hj).1.1.1
    rw [List.contains_eq_mem] at this
    simp [h] at this
  have getT : ∀ (l : Array Bool) (k : Nat) (b c : Bool), k < l.size → l.getD k b = l.getD k c := by
    intro l k b c hk
    rw [Array.getD_eq_getD_getElem?, Array.getD_eq_getD_getElem?, Array.getElem?_eq_getElem hk]; rfl
  have hdst : ∀ i, i < ops.size → ∃ d, dstOf ops i = some d ∧ d < a0.tmps.size ∧ ∀ j, j < ops.size → j ≠ i → dstOf ops j ≠ some d := by
    intro i hi
    obtain ⟨o2, d, ho2, hd2, hdl, hdd, _⟩ := regB_at hreg hi
    exact ⟨d, by unfold dstOf; rw [ho2]; exact hd2, hdl, hdd⟩
  have hA0 : ∀ j ∈ fl, valAt ops (putL ops c fl a0) j = c j := by
    intro j hj
    obtain ⟨d, hd, hdl, _⟩ := hdst j (hfl j hj).1.1.2
    have hs := (hfl j hj).2
    unfold slotsB at hs
    rw [hd] at hs
    unfold valAt
    rw [hd]
    exact slotJ fl hdl hs
  have hout : ∀ t, (∀ j ∈ fl, dstOf ops j ≠ some t) → (putL ops c fl a0).tmps.getD t undef = a0.tmps.getD t undef := by
    intro t ht
    exact slotO fl (List.all_eq_true.2 fun k hk => by simpa using ht k hk)
  have main : ∀ (fuel : Nat) (listed : Array Bool) (a : Act) (w : World) (dn rest : List Nat) (A : Act), listed.size = ops.size →
      ((List.range ops.size).filter fun j => !listed.getD j true).length ≤ fuel →
      W w → SpineW P ops Q W rest A w → sp = dn ++ rest → (∀ i ∈ dn, listed.getD i true = true) → (∀ i ∈ rest, listed.getD i true = false) → a.defers = A.defers → a.tmps.size = A.tmps.size → A.tmps.size = a0.tmps.size →
      (∀ j ∈ fl, valAt ops A j = c j) → (∀ t, (∀ j ∈ dn, dstOf ops j ≠ some t) → (∀ j ∈ fl, dstOf ops j ≠ some t) → A.tmps.getD t undef = a0.tmps.getD t undef) → (∀ j ∈ dn, ∀ k, waitsB ops j k = true → listed.getD k true = true) →
      (∀ t, a.tmps.getD t undef = A.tmps.getD t undef ∨ ∃ j ∈ fl, listed.getD j true = false ∧ dstOf ops j = some t) →
      wpAny P .any ops Q fuel listed a w := by
    intro fuel
    have allUp : ∀ (listed : Array Bool), listed.size = ops.size → Region.ready .any ops listed = [] → ∀ j, j < ops.size → listed.getD j true = true := by
      intro listed hsz hr j
      induction j using Nat.strongRecOn with
      | ind j ih =>
        intro hj
        cases hl : listed.getD j true with
        | true => rfl
        | false =>
          exfalso
          obtain ⟨o, d, ho, _, _, _, he⟩ := regB_at hreg hj
          have : j ∈ Region.ready .any ops listed := mem_ready.2 ⟨hl, o, ho, fun e hem hb => by
            have hlt := he e hem hb
            have := ih e.on hlt (by omega)
            rw [Array.getD_eq_getD_getElem?] at this ⊢
            rw [Array.getElem?_eq_getElem (by omega)] at this ⊢
            exact this⟩
          rw [hr] at this
          cases this
    have done : ∀ (listed : Array Bool) (a : Act) (w : World) (dn rest : List Nat) (A : Act), (∀ j, j < ops.size → listed.getD j true = true) → SpineW P ops Q W rest A w → sp = dn ++ rest → (∀ i ∈ rest, listed.getD i true = false) →
        a.defers = A.defers → a.tmps.size = A.tmps.size → (∀ t, a.tmps.getD t undef = A.tmps.getD t undef ∨ ∃ j ∈ fl, listed.getD j true = false ∧ dstOf ops j = some t) → Q .normal a w := by
      intro listed a w dn rest A hall hS hdn hrest hd hs hrel
      cases rest with
      | cons i is =>
        have h1 := hrest i (.head _)
        rw [hall i (hspl i (by rw [hdn]; simp))] at h1
        cases h1
      | nil =>
        have h1 := putL_whole (ops := ops) A [] a hs hd (fun t => by
          rcases hrel t with h | ⟨j, hj, h1, _⟩
          · exact .inl h
          · rw [hall j (hfl j hj).1.1.2] at h1; cases h1)
        unfold putL at h1
        rw [h1]
        exact hS
    induction fuel with
    | zero =>
      intro listed a w dn rest A hsz hcnt hw hS hdn hdl hrest hd hs hs0 hv ho hC hrel
      have hall : ∀ j, j < ops.size → listed.getD j true = true := by
        intro j hj
        cases hl : listed.getD j true with
        | true => rfl
        | false =>
          have : j ∈ (List.range ops.size).filter fun j => !listed.getD j true := List.mem_filter.2 ⟨List.mem_range.2 hj, by simp only [hl]; rfl⟩
          rw [List.eq_nil_of_length_eq_zero (Nat.le_zero.1 hcnt)] at this
          cases this
      refine ⟨?_, done listed a w dn rest A hall hS hdn hrest hd hs hrel⟩
      apply List.eq_nil_iff_forall_not_mem.2
      intro j hj
      obtain ⟨h1, o, ho, _⟩ := mem_ready.1 hj
      have hlt : j < ops.size := (Array.getElem?_eq_some_iff.1 ho).1
      rw [hall j hlt] at h1
      cases h1
    | succ fuel ih =>
      intro listed a w dn rest A hsz hcnt hw hS hdn hdl hrest hd hs hs0 hv ho hC hrel
      refine ⟨fun hr => done listed a w dn rest A (allUp listed hsz hr) hS hdn hrest hd hs hrel, fun i hi => ?_⟩
      obtain ⟨hui, o, hoi, hall⟩ := mem_ready.1 hi
      have hlt : i < ops.size := (Array.getElem?_eq_some_iff.1 hoi).1
      have hlz : i < listed.size := by omega
      have hwt : ∀ j, waitsB ops i j = true → listed.getD j true = true := by
        intro j hj
        obtain ⟨o', ho', e, he, hb, rfl⟩ := waits_some hj
        rw [hoi] at ho'
        injection ho' with ho'
        subst ho'
        have h1 := hall e he hb
        rcases Nat.lt_or_ge e.on listed.size with hl | hl
        · rw [getT _ _ true false hl]
          exact h1
        · rw [Array.getD_eq_getD_getElem?, Array.getElem?_eq_none hl] at h1; cases h1
      have hset : ∀ j b, (listed.setIfInBounds i true).getD j b = if j = i then true else listed.getD j b := by
        intro j b
        rw [Array.getD_eq_getD_getElem?, Array.getD_eq_getD_getElem?, Array.getElem?_setIfInBounds]
        by_cases e : i = j
        · subst e; simp [hlz]
        · rw [if_neg e, if_neg (fun h => e h.symm)]
      have hcnt' : ((List.range ops.size).filter fun j => !(listed.setIfInBounds i true).getD j true).length ≤ fuel := by
        have := filter_less (p := fun j => !listed.getD j true) (q := fun j => !(listed.setIfInBounds i true).getD j true) (i := i) (l := List.range ops.size) (fun x hx => by
          rw [hset] at hx
          by_cases e : x = i
          · rw [if_pos e] at hx; cases hx
          · rw [if_neg e] at hx; exact hx) (List.mem_range.2 hlt) (by rw [hui]; rfl) (by rw [hset, if_pos rfl]; rfl)
        omega
      obtain ⟨d, hdo, hdlt, hdd⟩ := hdst i hlt
      have hops : operandsOf ops i = o.op.operands.toList.filterMap fun | .tmp t => some t | _ => none := by unfold operandsOf; rw [hoi]
      have hndf : match o.op with | .defer _ => False | .select .. => False | _ => True := regB_plain hreg hoi
      have hdo' : o.dst = some d := by unfold dstOf at hdo; rw [hoi] at hdo; exact hdo
      have hcong : ∀ B : Act, (∀ t ∈ operandsOf ops i, B.tmps.getD t undef = a.tmps.getD t undef) → execOp B.eval o = execOp a.eval o := by
        intro B hB
        refine execOp_congr o (fun cs b e => by rw [e] at hndf; exact hndf) fun x hx => ?_
        cases x with
        | tmp t => exact hB t (by rw [hops]; exact List.mem_filterMap.2 ⟨.tmp t, by simpa using hx, rfl⟩)
        | _ => rfl
      have hval : ∀ (B : Act) (v : Value), B.tmps.size = a0.tmps.size → valAt ops (B.put o.dst v) i = v := by
        intro B v hB
        unfold valAt
        rw [hdo, hdo']
        exact put_same _ _ _ (by rw [hB]; exact hdlt)
      by_cases hf1 : i ∈ fl
      · -- one that floats
        have hg := (hfl i hf1).1.2
        rw [hoi, Option.bind_some, Option.isNone_iff_eq_none] at hg
        obtain ⟨o3, ho3, hrun⟩ := hF i hf1 w hw
        rw [hoi] at ho3
        injection ho3 with ho3
        subst ho3
        have hA0a : ∀ t ∈ operandsOf ops i, (putL ops c fl a0).tmps.getD t undef = a.tmps.getD t undef := by
          intro t ht
          rcases hfo i hf1 t ht with h | h
          · rw [List.any_eq_true] at h
            obtain ⟨j, hj, h⟩ := h
            rw [Bool.and_eq_true, beq_iff_eq] at h
            have h1 := hA0 j hj
            have h2 := hv j hj
            unfold valAt at h1 h2
            rw [h.2] at h1 h2
            rcases hrel t with h3 | ⟨k, hk, h3, h4⟩
            · rw [h3]; exact h1.trans h2.symm
            · exfalso
              obtain ⟨dj, hdj, _, hdd2⟩ := hdst j (hfl j hj).1.1.2
              rw [h.2] at hdj
              injection hdj with hdj
              subst hdj
              have hkj : k = j := by
                apply Classical.byContradiction
                intro hne
                exact hdd2 k (hfl k hk).1.1.2 hne h4
              rw [hkj, hwt j h.1] at h3
              cases h3
          · have h' : ∀ j ∈ fl, dstOf ops j ≠ some t := fun j hj => by simpa using h.1 j hj
            rw [hout t h', ← ho t (fun j hj e => by
              rcases h.2 j (by rw [hdn]; exact List.mem_append_left _ hj) with h5 | h5
              · exact absurd e (by simpa using h5)
              · have := hC j hj i h5
                rw [hui] at this
                cases this) h']
            rcases hrel t with h3 | ⟨k, hk, _, h4⟩
            · exact h3.symm
            · exact absurd h4 (h' k hk)
        have hrun' : (execOp a.eval o).run P w = .ok (.value (c i)) w := by rw [← hcong _ hA0a]; exact hrun
        unfold wpOp
        rw [hoi]
        simp only [Region.wanted, hg, if_true]
        left
        unfold Oper.wp
        rw [hrun']
        simp only [Oper.upon]
        refine ih (listed.setIfInBounds i true) (a.put o.dst (c i)) w dn rest A (by simp [hsz]) hcnt' hw hS hdn (fun x hx => by rw [hset]; split; rfl; exact hdl x hx) ?_ ?_ (by rw [put_size, hs]) hs0 hv ho (fun j hj k hk => by rw [hset]; split; rfl; exact hC j hj k hk) ?_
        · intro x hx
          rw [hset, if_neg (fun e => hflsp i hf1 (by rw [hdn, ← e]; exact List.mem_append_right _ hx))]
          exact hrest x hx
        · rw [← hd]; cases o.dst <;> rfl
        · intro t
          by_cases e : dstOf ops i = some t
          · left
            have h2 := hv i hf1
            unfold valAt at h2
            rw [e] at h2
            rw [hdo] at e
            injection e with e
            subst e
            rw [hdo', put_same _ _ _ (by rw [hs, hs0]; exact hdlt)]
            exact h2.symm
          · rw [put_other _ _ _ _ (by rw [hdo', ← hdo]; exact e)]
            rcases hrel t with h3 | ⟨k, hk, h3, h4⟩
            · exact .inl h3
            · refine .inr ⟨k, hk, ?_, h4⟩
              rw [hset, if_neg (fun e2 => e (by rw [← e2]; exact h4))]
              exact h3
      · -- one of the row
        have hs1 : i ∈ sp := by
          rcases hcov i hlt with h | h
          · exact h
          · exact absurd h hf1
        have hhead : ∃ is, rest = i :: is := by
          have hmem : i ∈ dn ++ rest := by rw [← hdn]; exact hs1
          rcases List.mem_append.1 hmem with h | h
          · rw [hdl i h] at hui; cases hui
          · cases rest with
            | nil => cases h
            | cons x is =>
              by_cases e : i = x
              · exact ⟨is, by rw [e]⟩
              · exfalso
                have hmi : i ∈ is := by
                  rcases List.mem_cons.1 h with h | h
                  · exact absurd h e
                  · exact h
                obtain ⟨u, t, hut⟩ := List.append_of_mem hmi
                obtain ⟨pre, y, hy⟩ : ∃ pre y, x :: u = pre ++ [y] := ⟨(x :: u).dropLast, (x :: u).getLast (by simp), (List.dropLast_concat_getLast (by simp)).symm⟩
                have hsp2 : sp = (dn ++ pre) ++ y :: i :: t := by
                  rw [hdn, hut, ← List.cons_append, hy]
                  simp
                have hwy : waitsB ops i y = true := chain_at (d := dn ++ pre) (l := t) (by rw [← hsp2]; exact hch)
                have hyr : y ∈ x :: is := by
                  rw [hut, ← List.cons_append, hy]
                  simp
                have := hrest y hyr
                rw [hwt y hwy] at this
                cases this
        obtain ⟨is, rfl⟩ := hhead
        obtain ⟨o3, ho3, hg, hwp⟩ := hS
        rw [hoi] at ho3
        injection ho3 with ho3
        subst ho3
        have hAa : ∀ t ∈ operandsOf ops i, A.tmps.getD t undef = a.tmps.getD t undef := by
          intro t ht
          rcases hrel t with h3 | ⟨k, hk, h3, h4⟩
          · exact h3.symm
          · exfalso
            rcases hso i hs1 t ht k hk with h | h
            · exact absurd h4 (by simpa using h)
            · rw [hwt k h] at h3; cases h3
        unfold wpOp
        rw [hoi]
        simp only [Region.wanted, hg, if_true]
        left
        refine wp_two (hcong A hAa) hwp ?_
        rintro v w' ⟨hw', hS'⟩
        refine ih (listed.setIfInBounds i true) (a.put o.dst v) w' (dn ++ [i]) is (A.put o.dst v) (by simp [hsz]) hcnt' hw' hS' (by rw [hdn]; simp) (fun x hx => by
          rw [hset]
          split
          · rfl
          · rename_i hne
            rcases List.mem_append.1 hx with h | h
            · exact hdl x h
            · exact absurd (by simpa using h) hne) ?_ ?_ (by rw [put_size, put_size, hs]) (by rw [put_size, hs0]) ?_ ?_ ?_ ?_
        · intro x hx
          have hne : x ≠ i := by
            intro e
            subst e
            rw [hdn] at hnd
            have := (List.nodup_append.1 hnd).2.1
            exact (List.nodup_cons.1 this).1 hx
          rw [hset, if_neg hne]
          exact hrest x (.tail _ hx)
        · cases o.dst <;> exact hd
        · intro j hj
          rw [← hv j hj]
          unfold valAt
          cases hjd : dstOf ops j with
          | none => rfl
          | some dj =>
            simp only
            refine put_other _ _ _ _ ?_
            rw [hdo']
            intro e
            have hji : j ≠ i := fun e2 => hf1 (by rw [← e2]; exact hj)
            exact hdd j (hfl j hj).1.1.2 hji (by rw [hjd]; exact e.symm)
        · intro t ht ht2
          rw [put_other _ _ _ _ (by rw [hdo', ← hdo]; exact ht i (by simp))]
          exact ho t (fun j hj => ht j (List.mem_append_left _ hj)) ht2
        · intro j hj k hk
          rw [hset]
          split
          · rfl
          · rcases List.mem_append.1 hj with h | h
            · exact hC j h k hk
            · have : j = i := by simpa using h
              subst this
              exact hwt k hk
        · intro t
          by_cases e : o.dst = some t
          · left
            rw [e]
            rw [hdo'] at e
            injection e with e
            subst e
            rw [put_same _ _ _ (by rw [hs, hs0]; exact hdlt), put_same _ _ _ (by rw [hs0]; exact hdlt)]
          · rw [put_other _ _ _ _ e, put_other _ _ _ _ e]
            rcases hrel t with h3 | ⟨k, hk, h3, h4⟩
            · exact .inl h3
            · refine .inr ⟨k, hk, ?_, h4⟩
              rw [hset, if_neg (fun e2 => hf1 (by rw [← e2]; exact hk))]
              exact h3
  refine wp_region_any hm ?_
  refine main ops.size (Array.replicate ops.size false) a0 w0.drew [] sp (putL ops c fl a0) (by simp) ?_ hW fin rfl (fun x hx => by cases hx) ?_ (putL_defers c fl a0).symm (putL_size c fl a0).symm (putL_size c fl a0) hA0 (fun t _ h => hout t h) (fun j hj => by cases hj) ?_
  · exact Nat.le_trans (List.length_filter_le _ _) (by simp)
  · intro i hi
    rw [Array.getD_eq_getD_getElem?, Array.getElem?_eq_getElem (by simpa using hspl i hi)]
    simp
  · intro t
    by_cases e : ∃ j ∈ fl, dstOf ops j = some t
    · obtain ⟨j, hj, hjd⟩ := e
      refine .inr ⟨j, hj, ?_, hjd⟩
      rw [Array.getD_eq_getD_getElem?, Array.getElem?_eq_getElem (by simpa using (hfl j hj).1.1.2)]
      simp
    · left
      exact (slotO fl (List.all_eq_true.2 fun k hk => by
        have : dstOf ops k ≠ some t := fun h => e ⟨k, hk, h⟩
        simpa using this)).symm
def putA : List (Nat × Tmp × Value) → Act → Act
  | [], a => a
  | x :: l, a => putA l (a.put (some x.2.1) x.2.2)
def valOf (fl : List (Nat × Tmp × Value)) (i : Nat) : Value := ((fl.find? fun y => y.1 == i).map (·.2.2)).getD undef
theorem valOf_mem : ∀ (fl : List (Nat × Tmp × Value)), (fl.map (·.1)).Nodup → ∀ x ∈ fl, valOf fl x.1 = x.2.2
  | [], _, x, h => by cases h
  | y :: l, hn, x, h => by
    rw [List.map_cons, List.nodup_cons] at hn
    unfold valOf
    rw [List.find?_cons]
    by_cases e : y.1 = x.1
    · have hx : x = y := by
        rcases List.mem_cons.1 h with h | h
        · exact h
        · exact absurd (by rw [e]; exact List.mem_map_of_mem h) hn.1
      subst hx
      simp
    · have e2 : (y.1 == x.1) = false := by simpa using e
      rw [e2]
      simp only
      rcases List.mem_cons.1 h with h | h
      · exact absurd (by rw [h]) e
      · exact valOf_mem l hn.2 x h
theorem putL_putA (c : Nat → Value) : ∀ (fl : List (Nat × Tmp × Value)) (a : Act), (∀ x ∈ fl, c x.1 = x.2.2 ∧ dstOf ops x.1 = some x.2.1) → putL ops c (fl.map (·.1)) a = putA fl a
  | [], a, _ => rfl
  | x :: l, a, h => by
    rw [List.map_cons]
    unfold putL putA
    rw [(h x (.head _)).1, (h x (.head _)).2]
    exact putL_putA c l _ fun y hy => h y (.tail _ hy)
/-- region_spine, by a list of places, slots and values. -/
theorem region_by_spine {id : Nat} (sp : List Nat) (fl : List (Nat × Tmp × Value)) (W : World → Prop) (hm : P.follows .mixedOrders = true) (hreg : regB ops a0.tmps.size = true) (hsp : spineB ops sp (fl.map (·.1)) = true)
    (hd : (fl.map fun x => dstOf ops x.1) = fl.map fun x => some x.2.1) (hn : decide ((fl.map (·.1)).Nodup) = true) (hW : W w0.drew)
    (hF : ∀ x ∈ fl, ∀ w ρ, W w → (∀ t, ρ (.tmp t) = (putA fl a0).tmps.getD t undef) → (∀ c, ρ (.const c) = c) → ∃ o, ops[x.1]? = some o ∧ (execOp ρ o).run P w = .ok (.value x.2.2) w)
    (fin : SpineW P ops Q W sp (putA fl a0) w0.drew) : (Code.region id ops true).wp P Q a0 w0 := by
  have hall : ∀ x ∈ fl, valOf fl x.1 = x.2.2 ∧ dstOf ops x.1 = some x.2.1 := fun x hx => ⟨valOf_mem fl (of_decide_eq_true hn) x hx, by
    obtain ⟨k, hk, rfl⟩ := List.getElem_of_mem hx
    have := congrArg (fun l => l[k]?) hd
    simpa [hk] using this⟩
  have he := putL_putA (ops := ops) (valOf fl) fl a0 hall
  refine region_spine sp (fl.map (·.1)) (valOf fl) W hm hreg hsp hW ?_ (by rw [he]; exact fin)
  intro i hi w hw
  obtain ⟨x, hx, rfl⟩ := List.mem_map.1 hi
  rw [(hall x hx).1, he]
  exact hF x hx w _ hw (fun t => rfl) (fun c => rfl)
end
end Go.Proofs.Ytidaimcndbhefaa
/- As RegS, but the last of the row waits for all others, and behind it nothing is asked of the world. No conditions. -/
namespace Go.Proofs.Ytidaimcndbhefaa
set_option linter.unusedVariables false
set_option linter.unusedSimpArgs false
open Go.RowKit
section
variable {P : Program} {ops : Array Oper} {Q : Exit → Act → World → Prop} {a0 : Act} {w0 : World}
/-- Operations one behind the other; W holds of each world between, but for the last. -/
def SpineU (P : Program) (ops : Array Oper) (Q : Exit → Act → World → Prop) (W : World → Prop) : List Nat → Act → World → Prop
  | [], a, w => Q .normal a w
  | i :: is, a, w => ∃ o, ops[i]? = some o ∧ o.guard = none ∧ Oper.wp P o a w (fun a' w' => a'.defers = a.defers ∧ (is ≠ [] → W w') ∧ SpineU P ops Q W is a' w') NoQ
/-- One of the row, as straight code. -/
theorem spineU_list {i : Nat} {is : List Nat} {W : World → Prop} {d : Option Tmp} {op : Op} {type : TypeId} {a : Act} {w : World} (ho : (ops[i]?).map (fun o => (o.op, o.type)) = some (op, type)) (hdo : (ops[i]?).map (·.dst) = some d) (hg : (ops[i]?).bind (·.guard) = none)
    (h : wpList P #[{ dst := d, op, type, pos := "", after := #[], guard := none }] (SpineQ a.defers (fun w => is ≠ [] → W w) (SpineU P ops Q W is)) [{ dst := d, op, type, pos := "", after := #[], guard := none }] a w) : SpineU P ops Q W (i :: is) a w := by
  cases hi : ops[i]? with
  | none => rw [hi] at ho; cases ho
  | some o =>
    rw [hi] at ho hdo hg
    obtain ⟨dst, op', type', pos, after, guard⟩ := o
    simp only [Option.map_some, Option.some.injEq, Prod.mk.injEq] at ho hdo
    obtain ⟨rfl, rfl⟩ := ho
    subst hdo
    simp only [Option.bind_some] at hg
    subst hg
    refine ⟨_, hi, rfl, ?_⟩
    unfold wpList at h
    simp only [Region.wanted, if_true] at h
    have he : execOp a.eval { dst, op := op', type := type', pos, after, guard := none } = execOp a.eval { dst, op := op', type := type', pos := "", after := #[], guard := none } := by
      cases op' <;> rfl
    rcases h with h | ⟨_, h2⟩
    · unfold Oper.wp at h ⊢
      rw [he]
      generalize (execOp a.eval { dst, op := op', type := type', pos := "", after := #[], guard := none }).run P w = r at *
      cases r with
      | ok n w' =>
        cases n <;> simp only [Oper.upon, wpList] at h ⊢
        case value u => exact h
        case skip => exact h
        case defer u => exact h
        case enter f args =>
          refine Calls.mono h fun e w'' he => ?_
          cases e with
          | returned u => exact he
          | panicked c => exact he.elim
          | outgrown => obtain ⟨_, _, hf⟩ := he; exact hf.elim
        case row row args => exact h
      | halt x w' =>
        cases x <;> simp only [Oper.upon] at h ⊢
        case panic u => exact h.elim
    · obtain ⟨_, _, h3⟩ := h2
      exact h3.elim
def plainB (ops : Array Oper) (i : Nat) : Bool := match ops[i]? with
  | none => true
  | some o => match o.op with | .defer _ => false | .select .. => false | _ => true
/-- The checks of regB, of all but the last, which leaves nothing in a slot. -/
def regUB (ops : Array Oper) (m size : Nat) : Bool :=
  ops.size == m + 1 && ((List.range (m + 1)).all fun i => eldB ops i) && ((List.range m).all fun i => ownB ops m size i) && (dstOf ops m).isNone && (List.range (m + 1)).all fun i => plainB ops i
theorem region_spineU {id m : Nat} (sp fl : List Nat) (c : Nat → Value) (W : World → Prop) (hm : P.follows .mixedOrders = true) (hreg : regUB ops m a0.tmps.size = true) (hmsp : m ∈ sp) (hsp : spineB ops sp fl = true) (hne : sp ≠ []) (hlw : ∀ l ∈ sp.getLast?, ∀ i ∈ fl, waitsB ops l i = true) (hW : W w0.drew)
    (hF : ∀ i ∈ fl, ∀ w, W w → ∃ o, ops[i]? = some o ∧ (execOp (putL ops c fl a0).eval o).run P w = .ok (.value (c i)) w)
    (fin : SpineU P ops Q W sp (putL ops c fl a0) w0.drew) : (Code.region id ops true).wp P Q a0 w0 := by
  unfold spineB at hsp
  simp only [Bool.and_eq_true, List.all_eq_true, List.mem_range, decide_eq_true_eq, Bool.or_eq_true, List.contains_iff_mem, Bool.not_eq_true', Bool.not_eq_eq_eq_not, Bool.not_true] at hsp
  obtain ⟨⟨⟨⟨⟨⟨hch, hcov⟩, hfl⟩, hspl⟩, hnd⟩, hfo⟩, hso⟩ := hsp
  have hflsp : ∀ j ∈ fl, j ∉ sp := fun j hj h => by
    have := (hfl j hj).1.1.1
    rw [List.contains_eq_mem] at this
    simp [h] at this
  have getT : ∀ (l : Array Bool) (k : Nat) (b c : Bool), k < l.size → l.getD k b = l.getD k c := by
    intro l k b c hk
    rw [Array.getD_eq_getD_getElem?, Array.getD_eq_getD_getElem?, Array.getElem?_eq_getElem hk]; rfl
  unfold regUB at hreg
  simp only [Bool.and_eq_true, beq_iff_eq, List.all_eq_true, List.mem_range, Option.isNone_iff_eq_none] at hreg
  obtain ⟨⟨⟨⟨hsize, held⟩, hown⟩, hmn⟩, hplain⟩ := hreg
  have hflm : ∀ j ∈ fl, j ≠ m := fun j hj e => hflsp j hj (by rw [e]; exact hmsp)
  have hdst : ∀ i, i < ops.size → i ≠ m → ∃ d, dstOf ops i = some d ∧ d < a0.tmps.size ∧ ∀ j, j < ops.size → j ≠ i → dstOf ops j ≠ some d := by
    intro i hi him
    obtain ⟨d, hd, hdl, hdd⟩ := ownB_out (hown i (by omega))
    refine ⟨d, hd, hdl, fun j hj hne => ?_⟩
    by_cases e : j = m
    · rw [e, hmn]; exact fun h => by cases h
    · exact hdd j (by omega) hne
  have hA0 : ∀ j ∈ fl, valAt ops (putL ops c fl a0) j = c j := by
    intro j hj
    obtain ⟨d, hd, hdl, _⟩ := hdst j (hfl j hj).1.1.2 (hflm j hj)
    have hs := (hfl j hj).2
    unfold slotsB at hs
    rw [hd] at hs
    unfold valAt
    rw [hd]
    exact slotJ fl hdl hs
  have hout : ∀ t, (∀ j ∈ fl, dstOf ops j ≠ some t) → (putL ops c fl a0).tmps.getD t undef = a0.tmps.getD t undef := by
    intro t ht
    exact slotO fl (List.all_eq_true.2 fun k hk => by simpa using ht k hk)
  have main : ∀ (fuel : Nat) (listed : Array Bool) (a : Act) (w : World) (dn rest : List Nat) (A : Act), listed.size = ops.size →
      ((List.range ops.size).filter fun j => !listed.getD j true).length ≤ fuel →
      (rest ≠ [] → W w) → SpineU P ops Q W rest A w → sp = dn ++ rest → (∀ i ∈ dn, listed.getD i true = true) → (∀ i ∈ rest, listed.getD i true = false) → a.defers = A.defers → a.tmps.size = A.tmps.size → A.tmps.size = a0.tmps.size →
      (∀ j ∈ fl, valAt ops A j = c j) → (∀ t, (∀ j ∈ dn, dstOf ops j ≠ some t) → (∀ j ∈ fl, dstOf ops j ≠ some t) → A.tmps.getD t undef = a0.tmps.getD t undef) → (∀ j ∈ dn, ∀ k, waitsB ops j k = true → listed.getD k true = true) →
      (∀ t, a.tmps.getD t undef = A.tmps.getD t undef ∨ ∃ j ∈ fl, listed.getD j true = false ∧ dstOf ops j = some t) →
      wpAny P .any ops Q fuel listed a w := by
    intro fuel
    have allUp : ∀ (listed : Array Bool), listed.size = ops.size → Region.ready .any ops listed = [] → ∀ j, j < ops.size → listed.getD j true = true := by
      intro listed hsz hr j
      induction j using Nat.strongRecOn with
      | ind j ih =>
        intro hj
        cases hl : listed.getD j true with
        | true => rfl
        | false =>
          exfalso
          obtain ⟨o, ho, he⟩ := eldB_out (held j (by omega))
          have : j ∈ Region.ready .any ops listed := mem_ready.2 ⟨hl, o, ho, fun e hem hb => by
            have hlt := he e hem hb
            have := ih e.on hlt (by omega)
            rw [Array.getD_eq_getD_getElem?] at this ⊢
            rw [Array.getElem?_eq_getElem (by omega)] at this ⊢
            exact this⟩
          rw [hr] at this
          cases this
    have done : ∀ (listed : Array Bool) (a : Act) (w : World) (dn rest : List Nat) (A : Act), (∀ j, j < ops.size → listed.getD j true = true) → SpineU P ops Q W rest A w → sp = dn ++ rest → (∀ i ∈ rest, listed.getD i true = false) →
        a.defers = A.defers → a.tmps.size = A.tmps.size → (∀ t, a.tmps.getD t undef = A.tmps.getD t undef ∨ ∃ j ∈ fl, listed.getD j true = false ∧ dstOf ops j = some t) → Q .normal a w := by
      intro listed a w dn rest A hall hS hdn hrest hd hs hrel
      cases rest with
      | cons i is =>
        have h1 := hrest i (.head _)
        rw [hall i (hspl i (by rw [hdn]; simp))] at h1
        cases h1
      | nil =>
        have h1 := putL_whole (ops := ops) A [] a hs hd (fun t => by
          rcases hrel t with h | ⟨j, hj, h1, _⟩
          · exact .inl h
          · rw [hall j (hfl j hj).1.1.2] at h1; cases h1)
        unfold putL at h1
        rw [h1]
        exact hS
    induction fuel with
    | zero =>
      intro listed a w dn rest A hsz hcnt hw hS hdn hdl hrest hd hs hs0 hv ho hC hrel
      have hall : ∀ j, j < ops.size → listed.getD j true = true := by
        intro j hj
        cases hl : listed.getD j true with
        | true => rfl
        | false =>
          have : j ∈ (List.range ops.size).filter fun j => !listed.getD j true := List.mem_filter.2 ⟨List.mem_range.2 hj, by simp only [hl]; rfl⟩
          rw [List.eq_nil_of_length_eq_zero (Nat.le_zero.1 hcnt)] at this
          cases this
      refine ⟨?_, done listed a w dn rest A hall hS hdn hrest hd hs hrel⟩
      apply List.eq_nil_iff_forall_not_mem.2
      intro j hj
      obtain ⟨h1, o, ho, _⟩ := mem_ready.1 hj
      have hlt : j < ops.size := (Array.getElem?_eq_some_iff.1 ho).1
      rw [hall j hlt] at h1
      cases h1
    | succ fuel ih =>
      intro listed a w dn rest A hsz hcnt hw hS hdn hdl hrest hd hs hs0 hv ho hC hrel
      refine ⟨fun hr => done listed a w dn rest A (allUp listed hsz hr) hS hdn hrest hd hs hrel, fun i hi => ?_⟩
      obtain ⟨hui, o, hoi, hall⟩ := mem_ready.1 hi
      have hlt : i < ops.size := (Array.getElem?_eq_some_iff.1 hoi).1
      have hlz : i < listed.size := by omega
      have hwt : ∀ j, waitsB ops i j = true → listed.getD j true = true := by
        intro j hj
        obtain ⟨o', ho', e, he, hb, rfl⟩ := waits_some hj
        rw [hoi] at ho'
        injection ho' with ho'
        subst ho'
        have h1 := hall e he hb
        rcases Nat.lt_or_ge e.on listed.size with hl | hl
        · rw [getT _ _ true false hl]
          exact h1
        · rw [Array.getD_eq_getD_getElem?, Array.getElem?_eq_none hl] at h1; cases h1
      have hset : ∀ j b, (listed.setIfInBounds i true).getD j b = if j = i then true else listed.getD j b := by
        intro j b
        rw [Array.getD_eq_getD_getElem?, Array.getD_eq_getD_getElem?, Array.getElem?_setIfInBounds]
        by_cases e : i = j
        · subst e; simp [hlz]
        · rw [if_neg e, if_neg (fun h => e h.symm)]
      have hcnt' : ((List.range ops.size).filter fun j => !(listed.setIfInBounds i true).getD j true).length ≤ fuel := by
        have := filter_less (p := fun j => !listed.getD j true) (q := fun j => !(listed.setIfInBounds i true).getD j true) (i := i) (l := List.range ops.size) (fun x hx => by
          rw [hset] at hx
          by_cases e : x = i
          · rw [if_pos e] at hx; cases hx
          · rw [if_neg e] at hx; exact hx) (List.mem_range.2 hlt) (by rw [hui]; rfl) (by rw [hset, if_pos rfl]; rfl)
        omega
      have hops : operandsOf ops i = o.op.operands.toList.filterMap fun | .tmp t => some t | _ => none := by unfold operandsOf; simp only [hoi]; try rfl
      have hndf : match o.op with | .defer _ => False | .select .. => False | _ => True := by
        have h2 := hplain i (by omega)
        unfold plainB at h2
        simp only [hoi] at h2
        revert h2
        cases o.op <;> simp
      have hcong : ∀ B : Act, (∀ t ∈ operandsOf ops i, B.tmps.getD t undef = a.tmps.getD t undef) → execOp B.eval o = execOp a.eval o := by
        intro B hB
        refine execOp_congr o (fun cs b e => by rw [e] at hndf; exact hndf) fun x hx => ?_
        cases x with
        | tmp t => exact hB t (by rw [hops]; exact List.mem_filterMap.2 ⟨.tmp t, by simpa using hx, rfl⟩)
        | _ => rfl
      by_cases him : i = m
      · have hf1 : i ∉ fl := fun h => hflm i h him
        have hdn0 : o.dst = none := by
          have h2 := hmn
          rw [← him] at h2
          unfold dstOf at h2
          rw [hoi] at h2
          exact h2
        have hput : ∀ (B : Act) (v : Value), B.put o.dst v = B := fun B v => by rw [hdn0]; rfl
        have hs1 : i ∈ sp := by
          rcases hcov i hlt with h | h
          · exact h
          · exact absurd h hf1
        have hhead : ∃ is, rest = i :: is := by
          have hmem : i ∈ dn ++ rest := by rw [← hdn]; exact hs1
          rcases List.mem_append.1 hmem with h | h
          · rw [hdl i h] at hui; cases hui
          · cases rest with
            | nil => cases h
            | cons x is =>
              by_cases e : i = x
              · exact ⟨is, by rw [e]⟩
              · exfalso
                have hmi : i ∈ is := by
                  rcases List.mem_cons.1 h with h | h
                  · exact absurd h e
                  · exact h
                obtain ⟨u, t, hut⟩ := List.append_of_mem hmi
                obtain ⟨pre, y, hy⟩ : ∃ pre y, x :: u = pre ++ [y] := ⟨(x :: u).dropLast, (x :: u).getLast (by simp), (List.dropLast_concat_getLast (by simp)).symm⟩
                have hsp2 : sp = (dn ++ pre) ++ y :: i :: t := by
                  rw [hdn, hut, ← List.cons_append, hy]
                  simp
                have hwy : waitsB ops i y = true := chain_at (d := dn ++ pre) (l := t) (by rw [← hsp2]; exact hch)
                have hyr : y ∈ x :: is := by
                  rw [hut, ← List.cons_append, hy]
                  simp
                have := hrest y hyr
                rw [hwt y hwy] at this
                cases this
        obtain ⟨is, rfl⟩ := hhead
        obtain ⟨o3, ho3, hg, hwp⟩ := hS
        rw [hoi] at ho3
        injection ho3 with ho3
        subst ho3
        have hAa : ∀ t ∈ operandsOf ops i, A.tmps.getD t undef = a.tmps.getD t undef := by
          intro t ht
          rcases hrel t with h3 | ⟨k, hk, h3, h4⟩
          · exact h3.symm
          · exfalso
            rcases hso i hs1 t ht k hk with h | h
            · exact absurd h4 (by simpa using h)
            · rw [hwt k h] at h3; cases h3
        unfold wpOp
        rw [hoi]
        simp only [Region.wanted, hg, if_true]
        left
        refine wp_two (hcong A hAa) hwp ?_
        rintro v w' ⟨hw', hS'⟩
        refine ih (listed.setIfInBounds i true) (a.put o.dst v) w' (dn ++ [i]) is (A.put o.dst v) (by simp [hsz]) hcnt' hw' hS' (by rw [hdn]; simp) (fun x hx => by
          rw [hset]
          split
          · rfl
          · rename_i hne
            rcases List.mem_append.1 hx with h | h
            · exact hdl x h
            · exact absurd (by simpa using h) hne) ?_ ?_ (by rw [put_size, put_size, hs]) (by rw [put_size, hs0]) ?_ ?_ ?_ ?_
        · intro x hx
          have hne : x ≠ i := by
            intro e
            subst e
            rw [hdn] at hnd
            have := (List.nodup_append.1 hnd).2.1
            exact (List.nodup_cons.1 this).1 hx
          rw [hset, if_neg hne]
          exact hrest x (.tail _ hx)
        · cases o.dst <;> exact hd
        · intro j hj
          rw [hput]; exact hv j hj
        · intro t ht ht2
          rw [hput]; exact ho t (fun j hj => ht j (List.mem_append_left _ hj)) ht2
        · intro j hj k hk
          rw [hset]
          split
          · rfl
          · rcases List.mem_append.1 hj with h | h
            · exact hC j h k hk
            · have : j = i := by simpa using h
              subst this
              exact hwt k hk
        · intro t
          rw [hput, hput]
          rcases hrel t with h3 | ⟨k, hk, h3, h4⟩
          · exact .inl h3
          · refine .inr ⟨k, hk, ?_, h4⟩
            rw [hset, if_neg (fun e2 => hf1 (by rw [← e2]; exact hk))]
            exact h3
      · obtain ⟨d, hdo, hdlt, hdd⟩ := hdst i hlt him
        have hdo' : o.dst = some d := by unfold dstOf at hdo; rw [hoi] at hdo; exact hdo
        have hval : ∀ (B : Act) (v : Value), B.tmps.size = a0.tmps.size → valAt ops (B.put o.dst v) i = v := by
          intro B v hB
          unfold valAt
          rw [hdo, hdo']
          exact put_same _ _ _ (by rw [hB]; exact hdlt)
        by_cases hf1 : i ∈ fl
        · -- one that floats
          have hg := (hfl i hf1).1.2
          rw [hoi, Option.bind_some, Option.isNone_iff_eq_none] at hg
          have hwr : rest ≠ [] := by
            intro e
            rw [e, List.append_nil] at hdn
            obtain ⟨l, hl⟩ : ∃ l, sp.getLast? = some l := ⟨sp.getLast hne, List.getLast?_eq_some_getLast hne⟩
            have hmem : l ∈ dn := by rw [← hdn]; exact List.mem_of_getLast? hl
            have := hC l hmem i (hlw l hl i hf1)
            rw [hui] at this
            cases this
          obtain ⟨o3, ho3, hrun⟩ := hF i hf1 w (hw hwr)
          rw [hoi] at ho3
          injection ho3 with ho3
          subst ho3
          have hA0a : ∀ t ∈ operandsOf ops i, (putL ops c fl a0).tmps.getD t undef = a.tmps.getD t undef := by
            intro t ht
            rcases hfo i hf1 t ht with h | h
            · rw [List.any_eq_true] at h
              obtain ⟨j, hj, h⟩ := h
              rw [Bool.and_eq_true, beq_iff_eq] at h
              have h1 := hA0 j hj
              have h2 := hv j hj
              unfold valAt at h1 h2
              rw [h.2] at h1 h2
              rcases hrel t with h3 | ⟨k, hk, h3, h4⟩
              · rw [h3]; exact h1.trans h2.symm
              · exfalso
                obtain ⟨dj, hdj, _, hdd2⟩ := hdst j (hfl j hj).1.1.2 (hflm j hj)
                rw [h.2] at hdj
                injection hdj with hdj
                subst hdj
                have hkj : k = j := by
                  apply Classical.byContradiction
                  intro hne
                  exact hdd2 k (hfl k hk).1.1.2 hne h4
                rw [hkj, hwt j h.1] at h3
                cases h3
            · have h' : ∀ j ∈ fl, dstOf ops j ≠ some t := fun j hj => by simpa using h.1 j hj
              rw [hout t h', ← ho t (fun j hj e => by
                rcases h.2 j (by rw [hdn]; exact List.mem_append_left _ hj) with h5 | h5
                · exact absurd e (by simpa using h5)
                · have := hC j hj i h5
                  rw [hui] at this
                  cases this) h']
              rcases hrel t with h3 | ⟨k, hk, _, h4⟩
              · exact h3.symm
              · exact absurd h4 (h' k hk)
          have hrun' : (execOp a.eval o).run P w = .ok (.value (c i)) w := by rw [← hcong _ hA0a]; exact hrun
          unfold wpOp
          rw [hoi]
          simp only [Region.wanted, hg, if_true]
          left
          unfold Oper.wp
          rw [hrun']
          simp only [Oper.upon]
          refine ih (listed.setIfInBounds i true) (a.put o.dst (c i)) w dn rest A (by simp [hsz]) hcnt' hw hS hdn (fun x hx => by rw [hset]; split; rfl; exact hdl x hx) ?_ ?_ (by rw [put_size, hs]) hs0 hv ho (fun j hj k hk => by rw [hset]; split; rfl; exact hC j hj k hk) ?_
          · intro x hx
            rw [hset, if_neg (fun e => hflsp i hf1 (by rw [hdn, ← e]; exact List.mem_append_right _ hx))]
            exact hrest x hx
          · rw [← hd]; cases o.dst <;> rfl
          · intro t
            by_cases e : dstOf ops i = some t
            · left
              have h2 := hv i hf1
              unfold valAt at h2
              rw [e] at h2
              rw [hdo] at e
              injection e with e
              subst e
              rw [hdo', put_same _ _ _ (by rw [hs, hs0]; exact hdlt)]
              exact h2.symm
            · rw [put_other _ _ _ _ (by rw [hdo', ← hdo]; exact e)]
              rcases hrel t with h3 | ⟨k, hk, h3, h4⟩
              · exact .inl h3
              · refine .inr ⟨k, hk, ?_, h4⟩
                rw [hset, if_neg (fun e2 => e (by rw [← e2]; exact h4))]
                exact h3
        · -- one of the row
          have hs1 : i ∈ sp := by
            rcases hcov i hlt with h | h
            · exact h
            · exact absurd h hf1
          have hhead : ∃ is, rest = i :: is := by
            have hmem : i ∈ dn ++ rest := by rw [← hdn]; exact hs1
            rcases List.mem_append.1 hmem with h | h
            · rw [hdl i h] at hui; cases hui
            · cases rest with
              | nil => cases h
              | cons x is =>
                by_cases e : i = x
                · exact ⟨is, by rw [e]⟩
                · exfalso
                  have hmi : i ∈ is := by
                    rcases List.mem_cons.1 h with h | h
                    · exact absurd h e
                    · exact h
                  obtain ⟨u, t, hut⟩ := List.append_of_mem hmi
                  obtain ⟨pre, y, hy⟩ : ∃ pre y, x :: u = pre ++ [y] := ⟨(x :: u).dropLast, (x :: u).getLast (by simp), (List.dropLast_concat_getLast (by simp)).symm⟩
                  have hsp2 : sp = (dn ++ pre) ++ y :: i :: t := by
                    rw [hdn, hut, ← List.cons_append, hy]
                    simp
                  have hwy : waitsB ops i y = true := chain_at (d := dn ++ pre) (l := t) (by rw [← hsp2]; exact hch)
                  have hyr : y ∈ x :: is := by
                    rw [hut, ← List.cons_append, hy]
                    simp
                  have := hrest y hyr
                  rw [hwt y hwy] at this
                  cases this
          obtain ⟨is, rfl⟩ := hhead
          obtain ⟨o3, ho3, hg, hwp⟩ := hS
          rw [hoi] at ho3
          injection ho3 with ho3
          subst ho3
          have hAa : ∀ t ∈ operandsOf ops i, A.tmps.getD t undef = a.tmps.getD t undef := by
            intro t ht
            rcases hrel t with h3 | ⟨k, hk, h3, h4⟩
            · exact h3.symm
            · exfalso
              rcases hso i hs1 t ht k hk with h | h
              · exact absurd h4 (by simpa using h)
              · rw [hwt k h] at h3; cases h3
          unfold wpOp
          rw [hoi]
          simp only [Region.wanted, hg, if_true]
          left
          refine wp_two (hcong A hAa) hwp ?_
          rintro v w' ⟨hw', hS'⟩
          refine ih (listed.setIfInBounds i true) (a.put o.dst v) w' (dn ++ [i]) is (A.put o.dst v) (by simp [hsz]) hcnt' hw' hS' (by rw [hdn]; simp) (fun x hx => by
            rw [hset]
            split
            · rfl
            · rename_i hne
              rcases List.mem_append.1 hx with h | h
              · exact hdl x h
              · exact absurd (by simpa using h) hne) ?_ ?_ (by rw [put_size, put_size, hs]) (by rw [put_size, hs0]) ?_ ?_ ?_ ?_
          · intro x hx
            have hne : x ≠ i := by
              intro e
              subst e
              rw [hdn] at hnd
              have := (List.nodup_append.1 hnd).2.1
              exact (List.nodup_cons.1 this).1 hx
            rw [hset, if_neg hne]
            exact hrest x (.tail _ hx)
          · cases o.dst <;> exact hd
          · intro j hj
            rw [← hv j hj]
            unfold valAt
            cases hjd : dstOf ops j with
            | none => rfl
            | some dj =>
              simp only
              refine put_other _ _ _ _ ?_
              rw [hdo']
              intro e
              have hji : j ≠ i := fun e2 => hf1 (by rw [← e2]; exact hj)
              exact hdd j (hfl j hj).1.1.2 hji (by rw [hjd]; exact e.symm)
          · intro t ht ht2
            rw [put_other _ _ _ _ (by rw [hdo', ← hdo]; exact ht i (by simp))]
            exact ho t (fun j hj => ht j (List.mem_append_left _ hj)) ht2
          · intro j hj k hk
            rw [hset]
            split
            · rfl
            · rcases List.mem_append.1 hj with h | h
              · exact hC j h k hk
              · have : j = i := by simpa using h
                subst this
                exact hwt k hk
          · intro t
            by_cases e : o.dst = some t
            · left
              rw [e]
              rw [hdo'] at e
              injection e with e
              subst e
              rw [put_same _ _ _ (by rw [hs, hs0]; exact hdlt), put_same _ _ _ (by rw [hs0]; exact hdlt)]
            · rw [put_other _ _ _ _ e, put_other _ _ _ _ e]
              rcases hrel t with h3 | ⟨k, hk, h3, h4⟩
              · exact .inl h3
              · refine .inr ⟨k, hk, ?_, h4⟩
                rw [hset, if_neg (fun e2 => hf1 (by rw [← e2]; exact hk))]
                exact h3
  refine wp_region_any hm ?_
  refine main ops.size (Array.replicate ops.size false) a0 w0.drew [] sp (putL ops c fl a0) (by simp) ?_ (fun _ => hW) fin rfl (fun x hx => by cases hx) ?_ (putL_defers c fl a0).symm (putL_size c fl a0).symm (putL_size c fl a0) hA0 (fun t _ h => hout t h) (fun j hj => by cases hj) ?_
  · exact Nat.le_trans (List.length_filter_le _ _) (by simp)
  · intro i hi
    rw [Array.getD_eq_getD_getElem?, Array.getElem?_eq_getElem (by simpa using hspl i hi)]
    simp
  · intro t
    by_cases e : ∃ j ∈ fl, dstOf ops j = some t
    · obtain ⟨j, hj, hjd⟩ := e
      refine .inr ⟨j, hj, ?_, hjd⟩
      rw [Array.getD_eq_getD_getElem?, Array.getElem?_eq_getElem (by simpa using (hfl j hj).1.1.2)]
      simp
    · left
      exact (slotO fl (List.all_eq_true.2 fun k hk => by
        have : dstOf ops k ≠ some t := fun h => e ⟨k, hk, h⟩
        simpa using this)).symm
/-- region_spine, by a list of places, slots and values. -/
theorem region_by_spineU {id : Nat} (m : Nat) (sp : List Nat) (fl : List (Nat × Tmp × Value)) (W : World → Prop) (hm : P.follows .mixedOrders = true) (hreg : regUB ops m a0.tmps.size = true) (hmsp : decide (m ∈ sp) = true) (hsp : spineB ops sp (fl.map (·.1)) = true) (hlw : (match sp.getLast? with | some l => (fl.map (·.1)).all fun i => waitsB ops l i | none => false) = true)
    (hd : (fl.map fun x => dstOf ops x.1) = fl.map fun x => some x.2.1) (hn : decide ((fl.map (·.1)).Nodup) = true) (hW : W w0.drew)
    (hF : ∀ x ∈ fl, ∀ w ρ, W w → (∀ t, ρ (.tmp t) = (putA fl a0).tmps.getD t undef) → (∀ c, ρ (.const c) = c) → ∃ o, ops[x.1]? = some o ∧ (execOp ρ o).run P w = .ok (.value x.2.2) w)
    (fin : SpineU P ops Q W sp (putA fl a0) w0.drew) : (Code.region id ops true).wp P Q a0 w0 := by
  have hall : ∀ x ∈ fl, valOf fl x.1 = x.2.2 ∧ dstOf ops x.1 = some x.2.1 := fun x hx => ⟨valOf_mem fl (of_decide_eq_true hn) x hx, by
    obtain ⟨k, hk, rfl⟩ := List.getElem_of_mem hx
    have := congrArg (fun l => l[k]?) hd
    simpa [hk] using this⟩
  have he := putL_putA (ops := ops) (valOf fl) fl a0 hall
  refine region_spineU sp (fl.map (·.1)) (valOf fl) W hm hreg (of_decide_eq_true hmsp) hsp (fun e => by rw [e] at hlw; cases hlw) (fun l hl i hi => by rw [show sp.getLast? = some l from hl] at hlw; exact List.all_eq_true.1 hlw i hi) hW ?_ (by rw [he]; exact fin)
  intro i hi w hw
  obtain ⟨x, hx, rfl⟩ := List.mem_map.1 hi
  rw [(hall x hx).1, he]
  exact hF x hx w _ hw (fun t => rfl) (fun c => rfl)
end
end Go.Proofs.Ytidaimcndbhefaa
/- graph.Twin. Conditions: lengths. -/
namespace Go.Proofs.Ytidaimcndbhefaa
set_option linter.unusedVariables false
set_option linter.unusedSimpArgs false
open Go.RowKit
set_option maxHeartbeats 4000000
set_option maxRecDepth 100000
theorem graph_res {tmps : Array Value} {W : World} {g : Nat} {a b : Value} (hb : Bk W g 25 #[a, b]) (h2 : tmps.getD 2 undef = .pointer (some ⟨g, 0, none⟩)) :
    (results Try.f23 tmps).run Try.prog W = .ok (.agg #[a, b]) W := by
  have hl := run_loadVar_row (P := Try.prog) W g 25 25 #[a, b] (0, 0) _ hb Try.underlying25 rfl (by kernel_rfl)
  have h2' : tmps[2]?.getD undef = .pointer (some ⟨g, 0, none⟩) := by simpa using h2
  simp [results, Try.results23, h2', asAddr, hl]
theorem twin_g (w : World) (g : Gv) (hg : g.At w w.heap.size) (hs : g.Small) : Calls Try.prog 23 #[g.v] w fun e w' => ∃ g' : Gv, e = .returned g'.v ∧ NOwn w' w.heap.size g'.vn g'.n ∧ ROwn w' w.heap.size g'.vr g'.r ∧ g'.n.map Nv.m = g.n.map Nv.m ∧ g'.r = g.r ∧ Below w.heap.size w w' := by
  have HG := Lib.hid hg
  have HSm := Lib.hid hs
  have HRc := Lib.hid (fun W (h : Below w.heap.size w W) => rclone_c g.r g.A2 g.c2 W ((hg.r.below h).more h.size) hs.2.1)
  obtain ⟨A, ca, A2, ca2, ns, rs⟩ := g
  obtain ⟨N, hN⟩ : ∃ N, N = ns.length := ⟨_, rfl⟩
  obtain ⟨M, hM⟩ : ∃ M, M = rs.length := ⟨_, rfl⟩
  have HN := Lib.hid (And.intro hN hM)
  have q0 : (N : Int) ≤ 1000000 := by rw [hN]; exact Int.ofNat_le.2 hs.1
  unfold Gv.v Gv.vn Gv.vr
  simp only at HRc ⊢
  rw [← hM] at HRc
  rw [← hN, ← hM]
  clear hg hs hN hM
  go_enter Try.func23, Try.ntmps23
  go_wp2_with fail
  refine Calls.mono (HRc.out _ (by repeat (first | with_reducible assumption | with_reducible exact Below.refl _ _ | with_reducible apply bdN | with_reducible apply Below.drew | with_reducible refine Below.alloc ?_ (by simp) _ | with_reducible refine Below.setCell ?_ (by simp) _))) ?_
  rintro r1 w1 ⟨R2, rc2, rfl, ho1, b1⟩
  have HB1 := Lib.hid (boxed2 (k := 0) b1)
  have HO1 := Lib.hid ho1
  obtain ⟨k1, k2, k3⟩ := HB1.out
  have hsz1 : w.heap.size + 2 ≤ w1.heap.size := by have := b1.size; simp at this; omega
  have hsz0 : w.heap.size < w1.heap.size := by omega
  have c0 := k1.two.1
  clear b1 ho1 k1 k2 k3
  go_wp2_with fail
  obtain ⟨q, hq⟩ : ∃ q, w1.heap.size = q := ⟨_, rfl⟩
  have HQ := Lib.hid hq.symm
  rw [hq]
  clear hq
  go_loopw [13] (fun i W => ∃ (k : Nat) (VA : Option Addr) (vc : Nat) (xs : List Nv), i = .int .i64 k ∧ k ≤ N ∧ Hid (xs.map Nv.m = (ns.take k).map Nv.m) ∧ NOwn W (q + 1) (.slice VA k vc) xs ∧ Bk W q 25 #[.slice VA k vc, .slice R2 M rc2] ∧ Below q w1 W) (fun i _ => N - (Go.RowKit.intOf i).toNat)
  case atStart =>
    refine ⟨0, none, 0, [], rfl, Nat.zero_le _, Lib.hid rfl, NOwn.nil _ _, ?_, ?_⟩
    · rw [HQ.out]; exact Bk.new _ _ _
    · rw [HQ.out]; exact Gw.alloc _ _
  case round =>
    obtain ⟨k, VA, vc, xs, rfl, hk, hm, ho, hb1, hB⟩ := hrel
    have hxl : xs.length = k := by
      have := congrArg List.length hm.out
      rw [List.length_map, List.length_map, List.length_take, ← HN.out.1] at this
      omega
    have hq2 := HQ.out
    have hsz := hb1.lt
    by_cases hlt : k < N
    · have hkl : k < ns.length := by rw [← HN.out.1]; exact hlt
      obtain ⟨x, hx⟩ : ∃ x, x = ns[k] := ⟨_, rfl⟩
      have hbw : Below w.heap.size w wr := HB1.out.2.2.trans (hB.mono (by omega))
      obtain ⟨ad, rfl, hc2, hc3, hxa⟩ : ∃ ad, A = some ad ∧ wr.cell? (ad.add (k * 2)) = some x.vp ∧ wr.cell? ⟨(ad.add (k * 2)).block, (ad.add (k * 2)).off + 1, none⟩ = some x.vd ∧ x.At wr wr.heap.size := by
        obtain ⟨ad, e, _, h1, h2, h3⟩ := (HG.out.n.below hbw) k hkl
        exact ⟨ad, e, by rw [hx]; exact h1, by rw [hx]; exact h2, by rw [hx]; exact h3.more hbw.size⟩
      have hsm := HSm.out.2.2 x (by rw [hx]; exact List.getElem_mem _)
      have HC1 := Lib.hid (fun W (hb : Below wr.heap.size wr W) => icloneG_c x.ps x.A x.c W (hxa.up hb).p (by omega))
      have HC2 := Lib.hid (fun W (hb : Below wr.heap.size wr W) => clone_c x.bs x.D x.d W (hxa.up hb).b (by omega))
      have hmm : ∀ y : Nv, y.m = x.m → (xs ++ [y]).map Nv.m = (ns.take (k + 1)).map Nv.m := fun y hy => by
        rw [take_snoc ns k hkl, List.map_append, List.map_append, hm.out, ← hx]
        simp [hy]
      have HMM := Lib.hid hmm
      obtain ⟨xA, xc, xD, xd, xps, xbs⟩ := x
      unfold Nv.vp at hc2
      unfold Nv.vd at hc3
      unfold NewP at HC1 HC2
      simp only at HC1 HC2 hc2 hc3
      obtain ⟨xn, hxn⟩ : ∃ n, n = xps.length := ⟨_, rfl⟩
      obtain ⟨xm, hxm⟩ : ∃ n, n = xbs.length := ⟨_, rfl⟩
      rw [← hxn] at hc2 HC1
      rw [← hxm] at hc3 HC2
      have p1 : (0 : Int) ≤ (k : Int) := by omega
      have p2 : (k : Int) < (N : Int) := by omega
      have HX := Lib.hid (And.intro hxn (And.intro hxm hxl))
      have HO := Lib.hid (And.intro ho (And.intro hb1 hB))
      have hcl := cell_lt hc2
      have hcl' : (ad.add (k * 2)).block < wr.heap.size := hcl
      have hva : (∀ a, VA = some a → q + 1 ≤ a.block ∧ a.block < wr.heap.size) := fun a e => by
        subst e
        exact ⟨(ho.row.lt a.block rfl).1, (ho.row.lt a.block rfl).2⟩
      have HVA := Lib.hid hva
      clear hx hxa hsm hmm hxn hxm hxl hm ho hB hq2 hkl hbw hcl hva
      go_wp2_with fail
      obtain ⟨W0, hW0⟩ : ∃ W0, W0 = wr.alloc (.cells #[.slice xA xn xc, .slice xD xm xd] 53) := ⟨_, rfl⟩
      have b0 : Below wr.heap.size wr W0 := by rw [hW0]; exact Gw.alloc _ _
      have k0 : Bk W0 wr.heap.size 53 #[.slice xA xn xc, .slice xD xm xd] := by rw [hW0]; exact Bk.new _ _ _
      have z0 : W0.heap.size = wr.heap.size + 1 := by rw [hW0]; simp
      have hW0' := Lib.hid hW0
      rw [← hW0]
      clear hW0 hb1
      have B0 := Lib.hid b0
      have K0 := Lib.hid k0
      have Z0 := Lib.hid z0
      have Q0 := Lib.hid (HO.out.2.1.below b0 hsz)
      have hw0 : W0.cell? ⟨q, 0, none⟩ = some (.slice VA k vc) ∧ W0.cell? ⟨wr.heap.size, 0, none⟩ = some (.slice xA xn xc) ∧ W0.cell? ⟨wr.heap.size, 1, none⟩ = some (.slice xD xm xd) := ⟨Q0.out.cell 0, k0.cell 0, k0.cell 1⟩
      clear b0 k0 z0
      refine region_by_spineU 12 [4, 7, 8, 9, 10, 11, 12] [(0, 17, .pointer (some ⟨q, 0, none⟩)), (1, 18, .slice VA k vc), (2, 19, .pointer (some ⟨wr.heap.size, 0, none⟩)), (3, 20, .slice xA xn xc), (5, 22, .pointer (some ⟨wr.heap.size, 1, none⟩)), (6, 23, .slice xD xm xd)]
        (fun W => W.cell? ⟨q, 0, none⟩ = some (.slice VA k vc) ∧ W.cell? ⟨wr.heap.size, 0, none⟩ = some (.slice xA xn xc) ∧ W.cell? ⟨wr.heap.size, 1, none⟩ = some (.slice xD xm xd)) (by kernel_rfl) (by kernel_rfl) (by kernel_rfl) (by kernel_rfl) (by kernel_rfl) (by kernel_rfl) (by kernel_rfl) hw0 ?_ ?_
      · intro y hy V ρ hV hρ hcst
        obtain ⟨k1, k2, k3⟩ := hV
        have e3 : ρ (.tmp 3) = .pointer (some ⟨q, 0, none⟩) := (hρ 3).trans (by kernel_rfl)
        have e5 : ρ (.tmp 5) = .pointer (some ⟨wr.heap.size, 0, none⟩) := (hρ 5).trans (by kernel_rfl)
        have e17 : ρ (.tmp 17) = .pointer (some ⟨q, 0, none⟩) := (hρ 17).trans (by kernel_rfl)
        have e19 : ρ (.tmp 19) = .pointer (some ⟨wr.heap.size, 0, none⟩) := (hρ 19).trans (by kernel_rfl)
        have e22 : ρ (.tmp 22) = .pointer (some ⟨wr.heap.size, 1, none⟩) := (hρ 22).trans (by kernel_rfl)
        clear hρ
        simp only [List.mem_cons, List.not_mem_nil, or_false] at hy
        rcases hy with rfl | rfl | rfl | rfl | rfl | rfl
        all_goals
          refine ⟨_, rfl, ?_⟩
          go_simp
          try rfl
      simp only [putA, putD, Act.put, List.setIfInBounds_toArray, List.set_cons_zero, List.set_cons_succ]
      refine spineU_list rfl rfl rfl ?_
      go_wp2_with fail
      refine Calls.mono (HC1.out _ (B0.out.trans ((Gw.drew W0).mono B0.out.size))) ?_
      rintro r2 V1 ⟨PA, pc, rfl, ho1, v1⟩
      have b1 : Below W0.heap.size W0 V1 := (Gw.drew W0).trans v1
      have B1 := Lib.hid b1
      have O1 := Lib.hid (show Ow iV 3 V1 W0.heap.size (.slice PA xn pc) xps from ho1)
      have K1 := Lib.hid (K0.out.below b1 K0.out.lt)
      have Q1 := Lib.hid (Q0.out.below b1 Q0.out.lt)
      have hw1 : V1.cell? ⟨q, 0, none⟩ = some (.slice VA k vc) ∧ V1.cell? ⟨wr.heap.size, 0, none⟩ = some (.slice xA xn xc) ∧ V1.cell? ⟨wr.heap.size, 1, none⟩ = some (.slice xD xm xd) := ⟨Q1.out.cell 0, K1.out.cell 0, K1.out.cell 1⟩
      have HW1 := Lib.hid hw1
      clear b1 v1 ho1 hw1 hw0
      go_wp2_with fail
      refine ⟨rfl, (by first | exact HW1.out | exact fun _ => HW1.out), ?_⟩
      refine spineU_list rfl rfl rfl ?_
      go_wp2_with fail
      refine Calls.mono (HC2.out _ (B0.out.trans (B1.out.mono B0.out.size))) ?_
      rintro r3 V2 ⟨DA, dc, rfl, ho2, v2⟩
      have B2 := Lib.hid v2
      have O2 := Lib.hid ho2
      have K2 := Lib.hid (K1.out.below v2 K1.out.lt)
      have Q2 := Lib.hid (Q1.out.below v2 Q1.out.lt)
      have hw2 : V2.cell? ⟨q, 0, none⟩ = some (.slice VA k vc) ∧ V2.cell? ⟨wr.heap.size, 0, none⟩ = some (.slice xA xn xc) ∧ V2.cell? ⟨wr.heap.size, 1, none⟩ = some (.slice xD xm xd) := ⟨Q2.out.cell 0, K2.out.cell 0, K2.out.cell 1⟩
      have HW2 := Lib.hid hw2
      clear v2 ho2 hw2
      go_wp2_with fail
      refine ⟨rfl, (by first | exact HW2.out | exact fun _ => HW2.out), ?_⟩
      refine spineU_list rfl rfl rfl ?_
      go_wp2_with fail
      refine ⟨rfl, (by first | exact HW2.out | exact fun _ => HW2.out), ?_⟩
      refine spineU_list rfl rfl rfl ?_
      go_wp2_with fail
      have b3 := Gw.alloc V2 (.cells #[.slice PA xn pc, .slice DA xm dc] 53)
      have E3 := Lib.hid (Bk.new V2 53 #[.slice PA xn pc, .slice DA xm dc])
      have B3 := Lib.hid b3
      have Q3 := Lib.hid (Q2.out.below b3 Q2.out.lt)
      have hw3 : (V2.alloc (.cells #[.slice PA xn pc, .slice DA xm dc] 53)).cell? ⟨q, 0, none⟩ = some (.slice VA k vc) ∧ (V2.alloc (.cells #[.slice PA xn pc, .slice DA xm dc] 53)).cell? ⟨wr.heap.size, 0, none⟩ = some (.slice xA xn xc) ∧ (V2.alloc (.cells #[.slice PA xn pc, .slice DA xm dc] 53)).cell? ⟨wr.heap.size, 1, none⟩ = some (.slice xD xm xd) := ⟨Q3.out.cell 0, (K2.out.below b3 K2.out.lt).cell 0, (K2.out.below b3 K2.out.lt).cell 1⟩
      have HW3 := Lib.hid hw3
      clear b3 hw3
      refine ⟨rfl, (by first | exact HW3.out | exact fun _ => HW3.out), ?_⟩
      refine spineU_list rfl rfl rfl ?_
      obtain ⟨i0, hi, hz0, hz1, hz2⟩ := info_parts infoN
      have hb03 : Below wr.heap.size wr (V2.alloc (.cells #[.slice PA xn pc, .slice DA xm dc] 53)) := B0.out.trans ((B1.out.trans (B2.out.trans (B3.out.mono B2.out.size) |>.mono B1.out.size)).mono B0.out.size)
      have HB03 := Lib.hid hb03
      have ho3 := ownsRow_below HO.out.1.row hb03
      rw [HX.out.2.2] at ho3
      refine wp_appR 2 i0 Try.underlying22 hi hz0 hz1 hz2 (by rfl) (by decide) rfl (.tmp 18) (.tmp 26) rfl (q + 1) _ k _ rfl ho3 ⟨V2.heap.size, 0, none⟩ 1 1 [.slice PA xn pc, .slice DA xm dc] rfl rfl (fun j u hu => ?_) (fun u hu => ?_) (by unfold maxLen; omega) (by omega) (by have := hb03.size; omega) ?_
      · have hj : j < 2 := by have := (List.getElem?_eq_some_iff.1 hu).1; simpa using this
        rw [addr_at, E3.out.cell]
        rcases (show j = 0 ∨ j = 1 by omega) with rfl | rfl
        · simpa using hu
        · simpa using hu
      · simp only [List.mem_cons, List.not_mem_nil, or_false] at hu
        rcases hu with rfl | rfl <;> rfl
      intro v5 w5 ho5 hb5 hg5 hv5
      obtain ⟨A5, c5, rfl⟩ := own_form ho5
      have hgq : ∀ c, (Value.slice VA k vc).ownBlock = some c → q + 1 ≤ c ∧ c < wr.heap.size := fun c e => by
        obtain ⟨a, e1, e2⟩ := own_sl e
        rw [← e2]; exact HVA.out a e1
      have Q5 := Lib.hid ((hg5.block q (Nat.lt_of_lt_of_le hsz hb03.size) (fun e => by have := (hgq q e.symm).1; omega)).trans Q3.out)
      have K5 := Lib.hid ((hg5.block wr.heap.size (Nat.lt_of_lt_of_le (by have := Z0.out; have := B0.out.size; omega) (show W0.heap.size ≤ _ from by have := B1.out.size; have := B2.out.size; have := B3.out.size; omega)) (fun e => by have := (hgq _ e.symm).2; omega)).trans (K2.out.below B3.out K2.out.lt))
      have hw5 : w5.cell? ⟨q, 0, none⟩ = some (.slice VA k vc) ∧ w5.cell? ⟨wr.heap.size, 0, none⟩ = some (.slice xA xn xc) ∧ w5.cell? ⟨wr.heap.size, 1, none⟩ = some (.slice xD xm xd) := ⟨Bk.cell Q5.out 0, Bk.cell K5.out 0, Bk.cell K5.out 1⟩
      have HW5 := Lib.hid hw5
      have hN5 : NOwn w5 (q + 1) (.slice A5 (k + 1) c5) (xs ++ [⟨PA, pc, DA, dc, xps, xbs⟩]) := by
        have z1 := B1.out.size
        have z2 := B2.out.size
        have z0 := B0.out.size
        refine NOwn.snoc HO.out.1 hb03 ⟨?_, ?_⟩ ⟨fun c e => ?_, fun c e => ?_, fun c e => ?_⟩ ?_ hg5 hv5
        · have h := (O1.out.below (B2.out.trans (B3.out.mono B2.out.size))).mono (show q + 1 ≤ W0.heap.size by omega)
          rw [show (⟨PA, pc, DA, dc, xps, xbs⟩ : Nv).vp = .slice PA xn pc from by rw [HX.out.1]; rfl]
          exact h
        · have h := (O2.out.below B3.out).mono (show q + 1 ≤ V1.heap.size by omega)
          rw [show (⟨PA, pc, DA, dc, xps, xbs⟩ : Nv).vd = .slice DA xm dc from by rw [HX.out.2.1]; rfl]
          exact h
        · have h := O1.out
          rw [HX.out.1] at h
          have := (h.lt c e).1
          omega
        · have h := O2.out
          rw [HX.out.2.1] at h
          have := (h.lt c e).1
          omega
        · intro e2
          have h := O1.out
          rw [HX.out.1] at h
          have h2 := O2.out
          rw [HX.out.2.1] at h2
          have g1 := (h.lt c e).2
          have g2 := (h2.lt c e2).1
          omega
        · rw [HX.out.2.2]
          have h := ho5
          rw [HX.out.1, HX.out.2.1] at h
          exact h
      have H5 := Lib.hid (And.intro hN5 (show Below q w1 w5 from (HO.out.2.2.trans (hb03.mono (by omega))).trans ((Below.refl _ _).grown hg5 (by have := hb03.size; omega) (fun c e => by have := (hgq c e).1; omega))))
      have F5 := Lib.hid (Bk.free Q5.out 0)
      clear ho3 ho5 hb5 hg5 hv5 hgq hw5 hi hz0 hz1 hz2 hb03 hN5
      refine ⟨rfl, (by first | exact HW5.out | exact fun _ => HW5.out), ?_⟩
      refine spineU_list rfl rfl rfl ?_
      go_wp2_with fail
      refine ⟨rfl, (by first | exact HW5.out | exact fun _ => HW5.out), ?_⟩
      refine spineU_list rfl rfl rfl ?_
      have c52 := Bk.cell Q5.out 0
      have f52 := F5.out
      have Q6 := Lib.hid (Bk.set Q5.out 0 (.slice A5 (k + 1) c5))
      go_wp2_with fail
      refine ⟨rfl, trivial, ?_⟩
      unfold SpineU
      have hnq : q ∉ (Value.slice A5 (k + 1) c5).ownBlock.toList ++ blksN (xs ++ [⟨PA, pc, DA, dc, xps, xbs⟩]) := fun h => by
        have := blks_ge H5.out.1 q h
        omega
      have H6 := Lib.hid (And.intro (H5.out.1.grown (grown_set w5 ⟨q, 0, none⟩ (.slice A5 (k + 1) c5)) hnq) (H5.out.2.trans ((Below.refl _ _).setCell (p := ⟨q, 0, none⟩) (Nat.le_refl _) (.slice A5 (k + 1) c5))))
      clear c52 f52 hnq
      go_wp2_with fail
      go_roundw
      case rel => exact ⟨k + 1, A5, c5, _, by go_num, by omega, Lib.hid (HMM.out ⟨PA, pc, DA, dc, xps, xbs⟩ rfl), H6.out.1, Q6.out, H6.out.2⟩
      case measure => (first | (simp [Go.RowKit.intOf]; done) | (simp [Go.RowKit.intOf]; omega))
    · have hkN : ns.take k = ns := by rw [show k = ns.length by rw [← HN.out.1]; omega, List.take_length]
      have hm2 := hm.out
      rw [hkN] at hm2
      have hsz2 : w.heap.size + 1 < wr.heap.size := by omega
      have d0 := (HB1.out.2.1.below hB (by omega))
      have k0 := d0.two.1
      have k1 := d0.two.2
      have g0 := d0.free 0
      have g1 := d0.free 1
      have e0 := hb1.two.1
      have e1 := hb1.two.2
      have HO := Lib.hid (And.intro ho (And.intro hB (And.intro hm2 hxl)))
      clear ho hB hm2 hm hkN d0 hq2
      go_wp2_with fail
      have hbz : Bk ((wr.setCell ⟨w.heap.size + 1, 0, none⟩ (.slice VA k vc)).setCell ⟨w.heap.size + 1, 1, none⟩ (.slice R2 M rc2)) (w.heap.size + 1) 25 #[.slice VA k vc, .slice R2 M rc2] := by
        have h := ((HB1.out.2.1.below HO.out.2.1 (by have := HQ.out; omega)).set 0 (.slice VA k vc)).set 1 (.slice R2 M rc2)
        simpa using h
      refine bodyPost_ret (v := .agg #[.slice VA k vc, .slice R2 M rc2]) (graph_res hbz rfl) rfl ?_
      obtain ⟨o1, o2, o3, o4⟩ := HO.out
      have hg0 : ∀ W : World, ∀ i u, W.grownBy (W.setCell ⟨w.heap.size + 1, i, none⟩ u) (some (w.heap.size + 1)) := fun W i u => grown_set W ⟨w.heap.size + 1, i, none⟩ u
      have hnin : w.heap.size + 1 ∉ (Value.slice VA k vc).ownBlock.toList ++ blksN xs := fun h => by
        have := blks_ge o1 _ h
        have := HQ.out
        omega
      have r1 : ROwn wr (w.heap.size + 2) (.slice R2 M rc2) rs := by
        have h := HO1.out
        have h2 : ROwn w1 (w.heap.size + 2) (.slice R2 M rc2) rs := by simpa using h
        exact h2.below (o2.mono (by rw [HQ.out]; exact Nat.le_refl _))
      have r2 : (Value.slice R2 M rc2).ownBlock = none ∨ (Value.slice R2 M rc2).ownBlock ≠ some (w.heap.size + 1) := by
        cases e : (Value.slice R2 M rc2).ownBlock with
        | none => exact .inl rfl
        | some c => exact .inr (fun e2 => by injection e2 with e2; have := (World.ownsRow.lt r1 c e).1; omega)
      refine ⟨⟨VA, vc, R2, rc2, xs, rs⟩, ?_, ?_, ?_, o3, rfl, ?_⟩
      · show _ = Ending.returned (Value.agg #[.slice VA xs.length vc, .slice R2 rs.length rc2])
        rw [o4, HN.out.2]
      · show NOwn _ _ (.slice VA xs.length vc) xs
        rw [o4]
        exact ((o1.grown (hg0 _ _ _) hnin).grown (hg0 _ _ _) hnin).mono (by have := HQ.out; omega)
      · show ROwn _ _ (.slice R2 rs.length rc2) rs
        rw [← HN.out.2]
        exact ROwn.mono (World.ownsRow.kept (World.ownsRow.kept r1 (hg0 _ _ _) r2) (hg0 _ _ _) r2) (by omega)
      · exact (((HB1.out.2.2.trans (o2.mono (by have := HQ.out; omega))).setCell (p := ⟨w.heap.size + 1, 0, none⟩) (by show w.heap.size ≤ w.heap.size + 1; omega) _).setCell (p := ⟨w.heap.size + 1, 1, none⟩) (by show w.heap.size ≤ w.heap.size + 1; omega) _)
end Go.Proofs.Ytidaimcndbhefaa
