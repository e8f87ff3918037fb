/- The first region of graph.Trim that draws its order. Conditions: lengths. -/
import Derived.Test.YtidaimcndbhefaaGrW
import Derived.Test.YtidaimcndbhefaaGrV
import Derived.Test.YtidaimcndbhefaaRegT
namespace Go.Proofs.Ytidaimcndbhefaa
set_option linter.unusedVariables false
set_option linter.unusedSimpArgs false
open Go.RowKit Go.Maps
/-- A slice of numbers of the call's own. -/
def IntsV (xs : List Int) (v : Value) (w : World) : Prop := ∃ A c, v = .slice A xs.length c ∧ Rd iV w w.heap.size A xs
theorem IntsV.mono {xs : List Int} {v : Value} {a b : World} (h : IntsV xs v a) (g : Below a.heap.size a b) : IntsV xs v b := by
  obtain ⟨A, c, e, hr⟩ := h
  exact ⟨A, c, e, (hr.below g).more g.size⟩
/-- A row of two slices. -/
def CatV (xs : List Int) (u : Value) (v : Value) (w : World) : Prop := ∃ b A c, v = .slice (some ⟨b, 0, none⟩) 2 2 ∧ Bk w b 26 #[.slice A xs.length c, u] ∧ Rd iV w w.heap.size A xs
theorem CatV.mono {xs : List Int} {u v : Value} {a b : World} (h : CatV xs u v a) (g : Below a.heap.size a b) : CatV xs u v b := by
  obtain ⟨k, A, c, e, hb, hr⟩ := h
  exact ⟨k, A, c, e, hb.below g hb.lt, (hr.below g).more g.size⟩
/-- What Reach answers. -/
def ReV (B : Nat) (ns : List Nv) (N : Nat) (fr : List Int) (v : Value) (w : World) : Prop := ∃ q L, v = .slice (some ⟨q, 0, none⟩) N N ∧ Ow tV 4 w B (.slice (some ⟨q, 0, none⟩) N N) L ∧ L.length = N ∧ ∀ p, hasG N p = true → (seenG L p = true ↔ Rch ns fr p)
theorem ReV.mono {B : Nat} {ns : List Nv} {N : Nat} {fr : List Int} {v : Value} {a b : World} (h : ReV B ns N fr v a) (g : Below a.heap.size a b) : ReV B ns N fr v b := by
  obtain ⟨q, L, e, ho, r⟩ := h
  exact ⟨q, L, e, ho.below g, r⟩
set_option maxHeartbeats 1000000
set_option maxRecDepth 100000
theorem named_iv {w : World} {A A2 : Option Addr} {ca ca2 N M : Nat} {ns : List Nv} {rs : List Rv} (hN : Hid (N = ns.length)) (hM : Hid (M = rs.length)) (W : World) (hb : Below w.heap.size w W) (hg : (⟨A, ca, A2, ca2, ns, rs⟩ : Gv).At w w.heap.size) (hs : (⟨A, ca, A2, ca2, ns, rs⟩ : Gv).Small) : Calls Try.prog 21 #[.agg #[.slice A N ca, .slice A2 M ca2]] W fun e w2 => ∃ u, e = .returned u ∧ Below W.heap.size W w2 ∧ IntsV (rs.map (·.t)) u w2 := by
  have h := named_g W ⟨A, ca, A2, ca2, ns, rs⟩ (hg.up hb) hs
  unfold Gv.v Gv.vn Gv.vr at h
  simp only at h
  rw [← hN.out, ← hM.out] at h
  refine h.mono ?_
  rintro e w2 ⟨v, rfl, ho, b2⟩
  obtain ⟨A', c', rfl, _⟩ := ho.form
  exact ⟨_, rfl, b2, A', c', rfl, ho.rd⟩
theorem concat_iv {xs ys : List Int} {AK : Option Addr} {K ck : Nat} (hK : Hid (K = ys.length)) (hl : xs.length ≤ 1000000) (hl2 : ys.length ≤ 1000000) {W : World} (hy : Rd iV W W.heap.size AK ys) {v : Value} (h : CatV xs (.slice AK K ck) v W) : Calls Try.prog 31 #[v] W fun e w2 => ∃ u, e = .returned u ∧ Below W.heap.size W w2 ∧ IntsV (xs ++ ys) u w2 := by
  obtain ⟨b, A, c, rfl, hb, hr⟩ := h
  rw [hK.out] at hb
  refine (concat_c W b A AK c ck xs ys hr hy hb hl hl2).mono ?_
  rintro e w2 ⟨v, rfl, ho, b2⟩
  obtain ⟨A', c', rfl, _⟩ := ho.form
  exact ⟨_, rfl, b2, A', c', rfl, ho.rd⟩
theorem reach_iv {w : World} {A A2 : Option Addr} {ca ca2 N M B : Nat} {ns : List Nv} {rs : List Rv} (hN : Hid (N = ns.length)) (hM : Hid (M = rs.length)) {W : World} (hb : Below w.heap.size w W) (hB : B ≤ W.heap.size) (hg : (⟨A, ca, A2, ca2, ns, rs⟩ : Gv).At w w.heap.size) (hs : (⟨A, ca, A2, ca2, ns, rs⟩ : Gv).Small) {fr : List Int} (hl : fr.length ≤ 1000000) {v : Value} (h : IntsV fr v W) : Calls Try.prog 13 #[.agg #[.slice A N ca, .slice A2 M ca2], v] W fun e w2 => ∃ u, e = .returned u ∧ Below W.heap.size W w2 ∧ ReV B ns N fr u w2 := by
  obtain ⟨AF, cf, rfl, hr⟩ := h
  have h := reach_c W ⟨A, ca, A2, ca2, ns, rs⟩ (hg.up hb) hs AF cf fr hr hl
  unfold Gv.v Gv.vn Gv.vr at h
  simp only at h
  rw [← hN.out, ← hM.out] at h
  refine h.mono ?_
  rintro e w2 ⟨q, L, rfl, ho, h1, h2, b2⟩
  exact ⟨_, rfl, b2, q, L, rfl, ho.mono (by omega), h1, h2⟩
theorem trim_r (Q : Exit → Act → World → Prop) (a0 : Act) (w : World) (w0 : World) (s B : Nat) (A A2 AK : Option Addr) (ca ca2 N M K ck : Nat) (ns : List Nv) (rs : List Rv) (ys : List Int) (hN : Hid (N = ns.length)) (hM : Hid (M = rs.length)) (hK : Hid (K = ys.length)) (hg : Hid ((⟨A, ca, A2, ca2, ns, rs⟩ : Gv).At w0 w0.heap.size)) (hs : Hid ((⟨A, ca, A2, ca2, ns, rs⟩ : Gv).Small)) (hb : Hid (Below w0.heap.size w0 w)) (hk : Bk w s 25 #[.slice A N ca, .slice A2 M ca2]) (hy : Hid (Rd iV w w.heap.size AK ys)) (hlen : Hid (((rs.map (·.t)) ++ ys).length ≤ 1000000 ∧ (rs.map (·.t)).length ≤ 1000000 ∧ ys.length ≤ 1000000)) (hB : Hid (B ≤ w.heap.size)) (hsz : a0.tmps.size = 96) (sl1 : a0.tmps.getD 1 undef = .slice AK K ck) (sl2 : a0.tmps.getD 2 undef = .pointer (some ⟨s, 0, none⟩))
    (fin : ∀ (vals : Nat → Value) (w1 : World), Below w.heap.size w w1 → (ReV B ns N (rs.map (·.t) ++ ys)) (vals 6) w1 → (IsV (.int .i64 N)) (vals 7) w1 → (IsV (Go.Value.int Go.IntKind.i64 0)) (vals 8) w1 → Q .normal (putD vals [20, 21, 22, 23, 24, 25, 26, 27, 28] 0 a0) w1) :
    (Code.region 3 (regIn Try.f15 3) true).wp Try.prog Q a0 w := by
  refine region_by (G := fun w w1 => Below w.heap.size w w1) [IsV (.agg #[.slice A N ca, .slice A2 M ca2]),
    IsV (.agg #[.slice A N ca, .slice A2 M ca2]),
    IntsV (rs.map (·.t)),
    IsV (.slice AK K ck),
    CatV (rs.map (·.t)) (.slice AK K ck),
    IntsV (rs.map (·.t) ++ ys),
    ReV B ns N (rs.map (·.t) ++ ys),
    IsV (.int .i64 N),
    IsV (Go.Value.int Go.IntKind.i64 0)]
    [20, 21, 22, 23, 24, 25, 26, 27, 28] (by kernel_rfl) (Gw.drew _) Gw.trans (by rw [hsz]; kernel_rfl) (by kernel_rfl) ?_ ?_ ?_
  · intro f hf
    simp only [List.mem_cons, List.not_mem_nil, or_false] at hf
    rcases hf with rfl | rfl | rfl | rfl | rfl | rfl | rfl | rfl | rfl <;> intro v a b h g <;> first | exact IsV.mono h | exact IntsV.mono h g | exact CatV.mono h g | exact ReV.mono h g
  · refine ⟨?_, ?_, ?_, ?_, ?_, ?_, ?_, ?_, ?_, trivial⟩
    · refine owes_v (Go.Op.load 25 (Go.Operand.tmp 2)) 25 [] (by kernel_rfl) (by kernel_rfl) (by kernel_rfl) rfl fun vals w1 ρ hG hF hρ hcst hfun => ?_
      have e2 : ρ (.tmp 2) = .pointer (some ⟨s, 0, none⟩) := ((hρ 2).trans (slotO [] (by kernel_rfl))).trans sl2
      obtain ⟨k0, k1⟩ := (hk.below hG hk.lt).two
      clear hρ hF hcst hfun sl1 sl2 fin
      exact opv_val (by go_simp <;> rfl) ⟨gw_self _, rfl⟩
    · refine owes_v (Go.Op.load 25 (Go.Operand.tmp 2)) 25 [] (by kernel_rfl) (by kernel_rfl) (by kernel_rfl) rfl fun vals w1 ρ hG hF hρ hcst hfun => ?_
      have e2 : ρ (.tmp 2) = .pointer (some ⟨s, 0, none⟩) := ((hρ 2).trans (slotO [] (by kernel_rfl))).trans sl2
      obtain ⟨k0, k1⟩ := (hk.below hG hk.lt).two
      clear hρ hF hcst hfun sl1 sl2 fin
      exact opv_val (by go_simp <;> rfl) ⟨gw_self _, rfl⟩
    · refine owes_v (Go.Op.call { callee := Go.Callee.value (Go.Operand.func 21), args := #[Go.Operand.tmp 21], argTypes := #[25] }) 26 [1] (by kernel_rfl) (by kernel_rfl) (by kernel_rfl) rfl fun vals w1 ρ hG hF hρ hcst hfun => ?_
      have e21 : ρ (.tmp 21) = .agg #[.slice A N ca, .slice A2 M ca2] := ((hρ 21).trans (slotJ [1] (by rw [hsz]; decide) (by kernel_rfl))).trans (hF 1 (by decide))
      clear hρ hF hcst sl1 sl2 fin
      exact opv_enter (by go_simp <;> rfl) (named_iv hN hM w1 (hb.out.trans (hG.mono hb.out.size)) hg.out hs.out)
    · exact owes_mv 1 (by kernel_rfl) (by kernel_rfl) (by kernel_rfl) sl1 (fun _ => rfl)
    · refine owes_v (Go.Op.buildSlice 80 2 #[(0, Go.Operand.tmp 22), (1, Go.Operand.tmp 23)]) 80 [2, 3] (by kernel_rfl) (by kernel_rfl) (by kernel_rfl) rfl fun vals w1 ρ hG hF hρ hcst hfun => ?_
      have f22 : (IntsV (rs.map (·.t))) (vals 2) w1 := hF 2 (by decide)
      have e22 : ρ (.tmp 22) = vals 2 := (hρ 22).trans (slotJ [2, 3] (by rw [hsz]; decide) (by kernel_rfl))
      have e23 : ρ (.tmp 23) = .slice AK K ck := ((hρ 23).trans (slotJ [2, 3] (by rw [hsz]; decide) (by kernel_rfl))).trans (hF 3 (by decide))
      obtain ⟨XA, Xc, hx0, hx⟩ := f22
      rw [hx0] at e22
      clear hρ hF hcst hfun sl1 sl2 fin
      exact opv_val (by go_simp <;> rfl) ⟨Gw.alloc _ _, ⟨_, XA, Xc, rfl, Bk.new w1 _ _, (hx.alloc (Nat.le_refl _) _).more (by simp)⟩⟩
    · refine owes_v (Go.Op.call { callee := Go.Callee.value (Go.Operand.func 31), args := #[Go.Operand.tmp 24], argTypes := #[80] }) 26 [4] (by kernel_rfl) (by kernel_rfl) (by kernel_rfl) rfl fun vals w1 ρ hG hF hρ hcst hfun => ?_
      have f24 : (CatV (rs.map (·.t)) (.slice AK K ck)) (vals 4) w1 := hF 4 (by decide)
      have e24 : ρ (.tmp 24) = vals 4 := (hρ 24).trans (slotJ [4] (by rw [hsz]; decide) (by kernel_rfl))
      clear hρ hF hcst sl1 sl2 fin
      exact opv_enter (by go_simp <;> rfl) (concat_iv hK hlen.out.2.1 hlen.out.2.2 ((hy.out.below hG).more hG.size) f24)
    · refine owes_v (Go.Op.call { callee := Go.Callee.value (Go.Operand.func 13), args := #[Go.Operand.tmp 20, Go.Operand.tmp 25], argTypes := #[25, 26] }) 37 [0, 5] (by kernel_rfl) (by kernel_rfl) (by kernel_rfl) rfl fun vals w1 ρ hG hF hρ hcst hfun => ?_
      have e20 : ρ (.tmp 20) = .agg #[.slice A N ca, .slice A2 M ca2] := ((hρ 20).trans (slotJ [0, 5] (by rw [hsz]; decide) (by kernel_rfl))).trans (hF 0 (by decide))
      have f25 : (IntsV (rs.map (·.t) ++ ys)) (vals 5) w1 := hF 5 (by decide)
      have e25 : ρ (.tmp 25) = vals 5 := (hρ 25).trans (slotJ [0, 5] (by rw [hsz]; decide) (by kernel_rfl))
      clear hρ hF hcst sl1 sl2 fin
      exact opv_enter (by go_simp <;> rfl) (reach_iv hN hM (hb.out.trans (hG.mono hb.out.size)) (Nat.le_trans hB.out hG.size) hg.out hs.out hlen.out.1 f25)
    · refine owes_v (Go.Op.call { callee := Go.Callee.builtin Go.Builtin.len, args := #[Go.Operand.tmp 26], argTypes := #[37] }) 3 [6] (by kernel_rfl) (by kernel_rfl) (by kernel_rfl) rfl fun vals w1 ρ hG hF hρ hcst hfun => ?_
      have f26 : (ReV B ns N (rs.map (·.t) ++ ys)) (vals 6) w1 := hF 6 (by decide)
      have e26 : ρ (.tmp 26) = vals 6 := (hρ 26).trans (slotJ [6] (by rw [hsz]; decide) (by kernel_rfl))
      obtain ⟨q26, L26, hx26, _⟩ := f26
      rw [hx26] at e26
      clear hρ hF hcst hfun sl1 sl2 fin
      exact opv_val (by go_simp <;> rfl) ⟨gw_self _, rfl⟩
    · refine owes_v (Go.Op.move (Go.Operand.const (Go.Value.int Go.IntKind.i64 0))) 3 [] (by kernel_rfl) (by kernel_rfl) (by kernel_rfl) rfl fun vals w1 ρ hG hF hρ hcst hfun => ?_
      clear hρ hF hfun sl1 sl2 fin
      exact opv_val (by go_simp <;> rfl) ⟨gw_self _, rfl⟩
  · intro vals w1 hG hF
    exact fin vals w1 hG (hF 6 (by decide +kernel)) (hF 7 (by decide +kernel)) (hF 8 (by decide +kernel))
end Go.Proofs.Ytidaimcndbhefaa
