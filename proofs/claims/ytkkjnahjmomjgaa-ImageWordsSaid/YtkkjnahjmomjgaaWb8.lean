/- Texts joined: FiB CkV CkR CkS CkU CrG DcE ImC. -/
import Derived.Test.YtkkjnahjmomjgaaWb7
import Derived.Test.YtkkjnahjmomjgaaFiC
import Derived.LoopTactic
import Derived.Test.YtkkjnahjmomjgaaBitsA
/- A row of findings (loamref17.Finding) as a list; append; at. Conditions: lengths. -/
namespace Go.Proofs.Ytkkjnahjmomjgaa
set_option linter.unusedVariables false
set_option linter.unusedSimpArgs false
open Go.RowKit Go.Maps
set_option maxHeartbeats 400000
set_option maxRecDepth 100000
theorem rinfoF : (Try.prog.info? 136).map (fun i => (i.zero, i.size, i.bytes)) = some (some (.agg #[.int .i64 0, .string ⟨#[]⟩]), 2, 24) := by kernel_rfl
/-- A row of pairs of one's own. -/
def rFR (w : World) (base : Nat) (v : Value) (l : List (Nat × ByteArray)) : Prop := w.ownsRow base 136 2 v l.length (flatF l)
/-- A slice's address reads as pairs. -/
def rRdF (w : World) (A : Option Addr) (l : List (Nat × ByteArray)) : Prop := ∀ j u, (flatF l)[j]? = some u → ∃ a, A = some a ∧ w.cell? (a.add j) = some u
section
variable {w w' : World} {base : Nat} {v : Value} {l : List (Nat × ByteArray)} {S : Nat → Prop}
theorem rFR.kept (h : rFR w base v l) (hk : Kept S w w') (hn : ∀ k, v.ownBlock = some k → ¬ S k) : rFR w' base v l := hk.rowF h hn
theorem rFR.below (h : rFR w base v l) (hb : Below w.heap.size w w') : rFR w' base v l := h.kept (Kept.of_below hb (fun _ => False)) (fun _ _ f => f)
theorem rFR.nil (w : World) (base : Nat) : rFR w base (.slice none 0 0) [] := ⟨rfl, .inl ⟨rfl, rfl⟩⟩
theorem rFR.form (h : rFR w base v l) : (v = .slice none 0 0 ∧ l = []) ∨ ∃ q c, v = .slice (some ⟨q, 0, none⟩) l.length c ∧ l.length ≤ c ∧ c ≤ maxLen ∧ base ≤ q ∧ q < w.heap.size := by
  rcases h.2 with ⟨e, hn⟩ | ⟨q, cap, cur, e, hB, hh, hc, hm, _⟩
  · exact .inl ⟨e, List.eq_nil_of_length_eq_zero hn⟩
  · exact .inr ⟨q, cap, e, hc, hm, hB, (Array.getElem?_eq_some_iff.1 hh).1⟩
theorem rFR.slice_ (h : rFR w base v l) : ∃ A c, v = .slice A l.length c ∧ l.length ≤ c ∧ c ≤ maxLen := by
  rcases h.form with ⟨rfl, rfl⟩ | ⟨q, c, rfl, h1, h2, _⟩
  · exact ⟨none, 0, rfl, Nat.le_refl _, by simp [maxLen]⟩
  · exact ⟨_, c, rfl, h1, h2⟩
theorem rFR.lt (h : rFR w base v l) : ∀ k, v.ownBlock = some k → base ≤ k ∧ k < w.heap.size := fun k hk => World.ownsRow.lt h k hk
theorem rFR.rdf {A : Option Addr} {n c : Nat} (h : rFR w base (.slice A n c) l) : rRdF w A l := by
  intro j u hu
  rcases h.form with ⟨e, rfl⟩ | ⟨q, c', e, _⟩
  · cases hu
  · injection e with e1 e2 e3
    subst e1
    exact ⟨_, rfl, World.ownsRow.cells h rfl j u hu⟩
theorem rRdF.pre {A : Option Addr} (h : rRdF w A l) (k : Nat) : rRdF w A (l.take k) := by
  intro j u hu
  refine h j u ?_
  have e : flatF l = flatF (l.take k) ++ flatF (l.drop k) := by rw [← flatF_app, List.take_append_drop]
  rw [e, List.getElem?_append_left (List.getElem?_eq_some_iff.1 hu).1]
  exact hu
/-- The cells of element j. -/
theorem rFR.at_ {A : Option Addr} {n c : Nat} (h : rFR w base (.slice A n c) l) (j : Nat) (hj : j < l.length) : ∃ q, A = some ⟨q, 0, none⟩ ∧ base ≤ q ∧ q < w.heap.size ∧ w.cell? ⟨q, j * 2, none⟩ = some (.int .i64 (l[j].1 : Int)) ∧ w.cell? ⟨q, j * 2 + 1, none⟩ = some (.string l[j].2) := by
  rcases h.form with ⟨e, rfl⟩ | ⟨q, c', e, _, _, h1, h2⟩
  · exact absurd hj (by simp)
  · injection e with e1 e2 e3
    subst e1
    obtain ⟨f1, f2⟩ := flatF_at l j hj
    have c1 := World.ownsRow.cells h rfl _ _ f1
    have c2 := World.ownsRow.cells h rfl _ _ f2
    refine ⟨q, rfl, h1, h2, ?_, ?_⟩
    · rw [add_off] at c1; rw [← c1]; congr 2; omega
    · rw [add_off] at c2; rw [← c2]; congr 2; omega
variable {ops : Array Oper} {rest : List Oper} {o : Oper} {a : Act} {Q : Exit → Act → World → Prop}
/-- append of pairs to a row of one's own. -/
theorem rwp_appF (hgd : o.guard = none) (s x : Operand)
    (ho : o.op = .call { callee := .builtin .append, args := #[s, x], argTypes := #[86, 86] })
    (hs : a.eval s = v) (hown : rFR w base v l)
    (A : Option Addr) (m c : Nat) (ys : List (Nat × ByteArray)) (hx : a.eval x = .slice A m c) (hm : m = ys.length) (hr : rRdF w A ys)
    (h63 : l.length + ys.length ≤ 100000) (hbase : base ≤ w.heap.size)
    (h : ∀ v' w', rFR w' base v' (l ++ ys) → Below base w w' → w.grownBy w' v.ownBlock → (v'.ownBlock = v.ownBlock ∨ v'.ownBlock = some w.heap.size) → wpList Try.prog ops Q rest (a.put o.dst v') w') : wpList Try.prog ops Q (o :: rest) a w := by
  subst hm
  obtain ⟨i, hi, hz, hsize, hbytes⟩ := info_parts rinfoF
  have hu := Try.underlying86
  have hbel : ∀ (v' : Value) (w' : World), w.grownBy w' v.ownBlock → Below base w w' := fun v' w' hg => (Below.refl _ _).grown hg hbase (fun k hk => (World.ownsRow.lt hown k hk).1)
  refine wpList_plain hgd fun K hK => ?_
  rcases A with _ | ad
  · have h0 : ys = [] := by
      cases ys with
      | nil => rfl
      | cons p ys =>
        obtain ⟨a, e, _⟩ := hr 0 (.int .i64 (p.1 : Int)) rfl
        cases e
    subst h0
    have hrun : (Builtin.append_ #[86, 86] o.type #[v, .slice none 0 c]).run Try.prog w = .ok v w := by
      rcases hown.2 with ⟨rfl, hn⟩ | ⟨g, cap, cur, rfl, _, _, hnc, _⟩
      · simp [Builtin.append_, run_underlying hu, sizeOf, typeInfo, hi, Builtin.lenOf, Builtin.firstCells]
      · simp [Builtin.append_, run_underlying hu, sizeOf, typeInfo, hi, Builtin.lenOf, Builtin.firstCells, hnc, storeCells]
    unfold Oper.wp execOp
    simp only [ho, resolve, invoke, builtin, Sem.run_bind, Sem.run_pure, Result.andThen_ok, List.map_toArray, List.map_cons, List.map_nil, hs, hx, List.length_nil, hrun]
    exact hK _ _ (h v w (by simpa using hown) (Below.refl _ _) (World.grownBy.refl w _) (.inl rfl))
  · obtain ⟨v', w', hrun, h2, h3, _, h5⟩ := run_append_own_at (P := Try.prog) w base 86 o.type 136 i _ 2 24 hu hi hz hsize hbytes rfl (by decide) v l.length (flatF l) hown ad ys.length c (flatF ys) (flatF_len ys)
      (fun j u hj => by
        obtain ⟨a, e, hc⟩ := hr j u hj
        injection e with e
        subst e
        exact hc) (flatF_one ys) (by unfold maxLen; omega) (by omega) hbase
    unfold Oper.wp execOp
    simp only [ho, resolve, invoke, builtin, Sem.run_bind, Sem.run_pure, Result.andThen_ok, List.map_toArray, List.map_cons, List.map_nil, hs, hx, hrun]
    refine hK _ _ (h v' w' ?_ (hbel v' w' h3) h3 h5)
    unfold rFR
    rw [List.length_append, flatF_app]
    exact h2
theorem rrdF_bk {w : World} {k : Nat} (a : Nat) (s : ByteArray) (hb : Bk w k 136 #[.int .i64 (a : Int), .string s]) : rRdF w (some ⟨k, 0, none⟩) [(a, s)] := by
  intro j u hu
  refine ⟨_, rfl, ?_⟩
  have hj : j < 2 := (List.getElem?_eq_some_iff.1 hu).1
  rw [add_off, Nat.zero_add]
  rcases (show j = 0 ∨ j = 1 by omega) with rfl | rfl
  · have : u = .int .i64 (a : Int) := by injection hu with hu; exact hu.symm
    rw [this]; exact hb.cell 0
  · have : u = .string s := by injection hu with hu; exact hu.symm
    rw [this]; exact hb.cell 1
theorem rrdF_new (w : World) (a : Nat) (s : ByteArray) : rRdF (w.alloc (.cells #[.int .i64 (a : Int), .string s] 136)) (some ⟨w.heap.size, 0, none⟩) [(a, s)] := rrdF_bk a s (Bk.new w _ _)
end
end Go.Proofs.Ytkkjnahjmomjgaa
/- The document's Found and Space: the regions. Conditions: lengths. -/
namespace Go.Proofs.Ytkkjnahjmomjgaa
set_option linter.unusedVariables false
set_option linter.unusedSimpArgs false
open Go.RowKit Go.Maps
set_option maxHeartbeats 4000000
set_option maxRecDepth 100000
/-- A new row of one finding. -/
def PFv (la B : Nat) (v : Value) (w : World) : Prop := ∃ q, v = .slice (some ⟨q, 0, none⟩) 1 1 ∧ B ≤ q ∧ Bk w q 136 #[.int .i64 (la : Int), .string ⟨#[112, 97, 100]⟩]
theorem PFv.mono {la B : Nat} {v : Value} {a b : World} (h : PFv la B v a) (g : Below a.heap.size a b) : PFv la B v b := by
  obtain ⟨q, e, hq, h⟩ := h
  exact ⟨q, e, hq, h.below g h.lt⟩
theorem rs15 (Q : Exit → Act → World → Prop) (a0 : Act) (w : World) (H R i a N : Nat) (adp : Addr) (pA : Option Addr) (pc : Nat) (P n : Int) (r : Bool) (hH : H < w.heap.size) (g0 : w.cell? ⟨H, 0, none⟩ = some (.int .i64 P)) (g1 : w.cell? ⟨H, 1, none⟩ = some (.int .i64 n)) (g2 : w.cell? ⟨H, 2, none⟩ = some (.bool false)) (g3 : w.cell? ⟨H, 3, none⟩ = some (.int .i64 0)) (hpA : pA = some adp) (hlt : (adp.add i).block < w.heap.size) (cp : w.cell? (adp.add i) = some (.int .i64 (a : Int))) (q0 : (0 : Int) ≤ (i : Int)) (q1 : (i : Int) < (N : Int)) (hp : Hid (∀ W, Below w.heap.size w W → Calls Try.prog 102 #[.pointer (some ⟨R, 0, none⟩), .int .i64 (a : Int), .agg #[.int .i64 P, .int .i64 n, .bool false, .int .i64 0]] W (RetP (.bool r) W))) (hsz : a0.tmps.size = 102) (sl8 : a0.tmps.getD 8 undef = .slice pA N pc) (sl10 : a0.tmps.getD 10 undef = .pointer (some ⟨R, 0, none⟩)) (sl11 : a0.tmps.getD 11 undef = .int .i64 (i : Int)) (sl12 : a0.tmps.getD 12 undef = .pointer (some ⟨H, 0, none⟩))
    (fin : ∀ (vals : Nat → Value) (w1 : World), Below w.heap.size w w1 → (IsV (.bool r)) (vals 6) w1 → Q .normal (putD vals [82, 83, 84, 85, 86, 87, 88] 0 a0) w1) :
    (Code.region 15 (regIn Try.f80 15) true).wp Try.prog Q a0 w := by
  refine region_by (G := fun w w1 => Below w.heap.size w w1) [IsV (.pointer (some ⟨R, 0, none⟩)),
    IsV (.slice pA N pc),
    IsV (.int .i64 (i : Int)),
    IsV (.pointer (some (adp.add i))),
    IsV (.int .i64 (a : Int)),
    IsV (.agg #[.int .i64 P, .int .i64 n, .bool false, .int .i64 0]),
    IsV (.bool r)]
    [82, 83, 84, 85, 86, 87, 88] (by kernel_rfl) (Gw.drew _) Gw.trans (by rw [hsz]; kernel_rfl) (by kernel_rfl) ?_ ?_ ?_
  · intro f hf
    simp only [List.mem_cons, List.not_mem_nil, or_false] at hf
    rcases hf with rfl | rfl | rfl | rfl | rfl | rfl | rfl <;> intro v a b h g <;> first | exact IsV.mono h
  · refine ⟨?_, ?_, ?_, ?_, ?_, ?_, ?_, trivial⟩
    · exact owes_mv 10 (by kernel_rfl) (by kernel_rfl) (by kernel_rfl) sl10 (fun _ => rfl)
    · exact owes_mv 8 (by kernel_rfl) (by kernel_rfl) (by kernel_rfl) sl8 (fun _ => rfl)
    · exact owes_mv 11 (by kernel_rfl) (by kernel_rfl) (by kernel_rfl) sl11 (fun _ => rfl)
    · refine owes_v (Go.Op.indexAddr 49 (Go.Operand.tmp 83) (Go.Operand.tmp 84)) 0 [1, 2] (by kernel_rfl) (by kernel_rfl) (by kernel_rfl) rfl fun vals w1 ρ hG hF hρ hcst hfun => ?_
      have e83 : ρ (.tmp 83) = .slice pA N pc := ((hρ 83).trans (slotJ [1, 2] (by rw [hsz]; decide) (by kernel_rfl))).trans (hF 1 (by decide))
      have e84 : ρ (.tmp 84) = .int .i64 (i : Int) := ((hρ 84).trans (slotJ [1, 2] (by rw [hsz]; decide) (by kernel_rfl))).trans (hF 2 (by decide))
      subst hpA
      clear hρ hF hcst hfun sl8 sl10 sl11 sl12 fin
      exact opv_val (by go_simp <;> rfl) ⟨gw_self _, rfl⟩
    · refine owes_v (Go.Op.load 3 (Go.Operand.tmp 85)) 3 [3] (by kernel_rfl) (by kernel_rfl) (by kernel_rfl) rfl fun vals w1 ρ hG hF hρ hcst hfun => ?_
      have e85 : ρ (.tmp 85) = .pointer (some (adp.add i)) := ((hρ 85).trans (slotJ [3] (by rw [hsz]; decide) (by kernel_rfl))).trans (hF 3 (by decide))
      have k := (hG.cell (p := adp.add i) hlt).trans cp
      clear hρ hF hcst hfun sl8 sl10 sl11 sl12 fin
      exact opv_val (by go_simp <;> rfl) ⟨gw_self _, rfl⟩
    · refine owes_v (Go.Op.load 81 (Go.Operand.tmp 12)) 81 [] (by kernel_rfl) (by kernel_rfl) (by kernel_rfl) rfl fun vals w1 ρ hG hF hρ hcst hfun => ?_
      have e12 : ρ (.tmp 12) = .pointer (some ⟨H, 0, none⟩) := ((hρ 12).trans (slotO [] (by kernel_rfl))).trans sl12
      have k0 := (hG.cell (p := ⟨H, 0, none⟩) hH).trans g0; have k1 := (hG.cell (p := ⟨H, 1, none⟩) hH).trans g1; have k2 := (hG.cell (p := ⟨H, 2, none⟩) hH).trans g2; have k3 := (hG.cell (p := ⟨H, 3, none⟩) hH).trans g3
      clear hρ hF hcst hfun sl8 sl10 sl11 sl12 fin
      exact opv_val (by go_simp <;> rfl) ⟨gw_self _, rfl⟩
    · refine owes_v (Go.Op.call { callee := Go.Callee.value (Go.Operand.func 102), args := #[Go.Operand.tmp 82, Go.Operand.tmp 86, Go.Operand.tmp 87], argTypes := #[163, 3, 81] }) 4 [0, 4, 5] (by kernel_rfl) (by kernel_rfl) (by kernel_rfl) rfl fun vals w1 ρ hG hF hρ hcst hfun => ?_
      have e82 : ρ (.tmp 82) = .pointer (some ⟨R, 0, none⟩) := ((hρ 82).trans (slotJ [0, 4, 5] (by rw [hsz]; decide) (by kernel_rfl))).trans (hF 0 (by decide))
      have e86 : ρ (.tmp 86) = .int .i64 (a : Int) := ((hρ 86).trans (slotJ [0, 4, 5] (by rw [hsz]; decide) (by kernel_rfl))).trans (hF 4 (by decide))
      have e87 : ρ (.tmp 87) = .agg #[.int .i64 P, .int .i64 n, .bool false, .int .i64 0] := ((hρ 87).trans (slotJ [0, 4, 5] (by rw [hsz]; decide) (by kernel_rfl))).trans (hF 5 (by decide))
      clear hρ hF hcst sl8 sl10 sl11 sl12 fin
      exact opv_enter (by go_simp <;> rfl) (of_ret (hp.out w1 hG))
  · intro vals w1 hG hF
    exact fin vals w1 hG (hF 6 (by decide +kernel))
theorem rs16 (Q : Exit → Act → World → Prop) (a0 : Act) (w : World) (H i a N sz la : Nat) (adp : Addr) (pA : Option Addr) (pc : Nat) (P n : Int) (ov : Value) (hH : H < w.heap.size) (g0 : w.cell? ⟨H, 0, none⟩ = some (.int .i64 P)) (g1 : w.cell? ⟨H, 1, none⟩ = some (.int .i64 n)) (g2 : w.cell? ⟨H, 2, none⟩ = some (.bool false)) (g3 : w.cell? ⟨H, 3, none⟩ = some (.int .i64 0)) (hpA : pA = some adp) (hlt : (adp.add i).block < w.heap.size) (cp : w.cell? (adp.add i) = some (.int .i64 (a : Int))) (q0 : (0 : Int) ≤ (i : Int)) (q1 : (i : Int) < (N : Int)) (z1 : (a : Int) + (sz : Int) - 1 = (la : Int)) (z2 : (a : Int) ≤ 8192) (z3 : (sz : Int) ≤ 8192) (z4 : (0 : Int) ≤ (a : Int)) (z5 : (1 : Int) ≤ (sz : Int)) (hp : Hid (∀ W, Calls Try.prog 70 #[.agg #[.int .i64 P, .int .i64 n, .bool false, .int .i64 0]] W (RetP (.int .i64 (sz : Int)) W))) (hsz : a0.tmps.size = 102) (sl7 : a0.tmps.getD 7 undef = ov) (sl8 : a0.tmps.getD 8 undef = .slice pA N pc) (sl11 : a0.tmps.getD 11 undef = .int .i64 (i : Int)) (sl12 : a0.tmps.getD 12 undef = .pointer (some ⟨H, 0, none⟩))
    (fin : ∀ (vals : Nat → Value) (w1 : World), Below w.heap.size w w1 → (IsV (ov)) (vals 0) w1 → (PFv la w.heap.size) (vals 10) w1 → wpList Try.prog #[{ dst := some 100, op := Go.Op.call { callee := Go.Callee.builtin Go.Builtin.append, args := #[Go.Operand.tmp 89, Go.Operand.tmp 99], argTypes := #[86, 86] }, type := 86, pos := "", after := #[], guard := none }] (SpineQ (putD vals [89, 90, 91, 92, 93, 94, 95, 96, 97, 98, 99] 0 a0).defers (fun _ => True) (fun a w => wpList Try.prog #[{ dst := some 7, op := Go.Op.assign (Go.Operand.tmp 100), type := 86, pos := "", after := #[], guard := none }] Q [{ dst := some 7, op := Go.Op.assign (Go.Operand.tmp 100), type := 86, pos := "", after := #[], guard := none }] a w)) [{ dst := some 100, op := Go.Op.call { callee := Go.Callee.builtin Go.Builtin.append, args := #[Go.Operand.tmp 89, Go.Operand.tmp 99], argTypes := #[86, 86] }, type := 86, pos := "", after := #[], guard := none }] (putD vals [89, 90, 91, 92, 93, 94, 95, 96, 97, 98, 99] 0 a0) w1) :
    (Code.region 16 (regIn Try.f80 16) true).wp Try.prog Q a0 w := by
  refine region_by_tail2 (m := 11) (G := fun w w1 => Below w.heap.size w w1) [IsV (ov),
    IsV (.slice pA N pc),
    IsV (.int .i64 (i : Int)),
    IsV (.pointer (some (adp.add i))),
    IsV (.int .i64 (a : Int)),
    IsV (.agg #[.int .i64 P, .int .i64 n, .bool false, .int .i64 0]),
    IsV (.int .i64 (sz : Int)),
    IsV (.int .i64 ((a : Int) + (sz : Int))),
    IsV (.int .i64 (la : Int)),
    IsV (.agg #[.int .i64 (la : Int), .string ⟨#[112, 97, 100]⟩]),
    PFv la w.heap.size]
    [89, 90, 91, 92, 93, 94, 95, 96, 97, 98, 99] (by kernel_rfl) (Gw.drew _) Gw.trans (by rw [hsz]; kernel_rfl) (by kernel_rfl) ?_ ?_ ?_
  · intro f hf
    simp only [List.mem_cons, List.not_mem_nil, or_false] at hf
    rcases hf with rfl | rfl | rfl | rfl | rfl | rfl | rfl | rfl | rfl | rfl | rfl <;> intro v a b h g <;> first | exact IsV.mono h | exact PFv.mono h g
  · refine ⟨?_, ?_, ?_, ?_, ?_, ?_, ?_, ?_, ?_, ?_, ?_, trivial⟩
    · exact owes_mv 7 (by kernel_rfl) (by kernel_rfl) (by kernel_rfl) sl7 (fun _ => rfl)
    · exact owes_mv 8 (by kernel_rfl) (by kernel_rfl) (by kernel_rfl) sl8 (fun _ => rfl)
    · exact owes_mv 11 (by kernel_rfl) (by kernel_rfl) (by kernel_rfl) sl11 (fun _ => rfl)
    · refine owes_v (Go.Op.indexAddr 49 (Go.Operand.tmp 90) (Go.Operand.tmp 91)) 0 [1, 2] (by kernel_rfl) (by kernel_rfl) (by kernel_rfl) rfl fun vals w1 ρ hG hF hρ hcst hfun => ?_
      have e90 : ρ (.tmp 90) = .slice pA N pc := ((hρ 90).trans (slotJ [1, 2] (by rw [hsz]; decide) (by kernel_rfl))).trans (hF 1 (by decide))
      have e91 : ρ (.tmp 91) = .int .i64 (i : Int) := ((hρ 91).trans (slotJ [1, 2] (by rw [hsz]; decide) (by kernel_rfl))).trans (hF 2 (by decide))
      subst hpA
      clear hρ hF hcst hfun sl7 sl8 sl11 sl12 fin
      exact opv_val (by go_simp <;> rfl) ⟨gw_self _, rfl⟩
    · refine owes_v (Go.Op.load 3 (Go.Operand.tmp 92)) 3 [3] (by kernel_rfl) (by kernel_rfl) (by kernel_rfl) rfl fun vals w1 ρ hG hF hρ hcst hfun => ?_
      have e92 : ρ (.tmp 92) = .pointer (some (adp.add i)) := ((hρ 92).trans (slotJ [3] (by rw [hsz]; decide) (by kernel_rfl))).trans (hF 3 (by decide))
      have k := (hG.cell (p := adp.add i) hlt).trans cp
      clear hρ hF hcst hfun sl7 sl8 sl11 sl12 fin
      exact opv_val (by go_simp <;> rfl) ⟨gw_self _, rfl⟩
    · refine owes_v (Go.Op.load 81 (Go.Operand.tmp 12)) 81 [] (by kernel_rfl) (by kernel_rfl) (by kernel_rfl) rfl fun vals w1 ρ hG hF hρ hcst hfun => ?_
      have e12 : ρ (.tmp 12) = .pointer (some ⟨H, 0, none⟩) := ((hρ 12).trans (slotO [] (by kernel_rfl))).trans sl12
      have k0 := (hG.cell (p := ⟨H, 0, none⟩) hH).trans g0; have k1 := (hG.cell (p := ⟨H, 1, none⟩) hH).trans g1; have k2 := (hG.cell (p := ⟨H, 2, none⟩) hH).trans g2; have k3 := (hG.cell (p := ⟨H, 3, none⟩) hH).trans g3
      clear hρ hF hcst hfun sl7 sl8 sl11 sl12 fin
      exact opv_val (by go_simp <;> rfl) ⟨gw_self _, rfl⟩
    · refine owes_v (Go.Op.call { callee := Go.Callee.value (Go.Operand.func 70), args := #[Go.Operand.tmp 94], argTypes := #[81] }) 3 [5] (by kernel_rfl) (by kernel_rfl) (by kernel_rfl) rfl fun vals w1 ρ hG hF hρ hcst hfun => ?_
      have e94 : ρ (.tmp 94) = .agg #[.int .i64 P, .int .i64 n, .bool false, .int .i64 0] := ((hρ 94).trans (slotJ [5] (by rw [hsz]; decide) (by kernel_rfl))).trans (hF 5 (by decide))
      clear hρ hF hcst sl7 sl8 sl11 sl12 fin
      exact opv_enter (by go_simp <;> rfl) (of_ret (hp.out w1))
    · refine owes_v (Go.Op.binOp Go.BinOp.add 3 (Go.Operand.tmp 93) (Go.Operand.tmp 95) 3) 3 [4, 6] (by kernel_rfl) (by kernel_rfl) (by kernel_rfl) rfl fun vals w1 ρ hG hF hρ hcst hfun => ?_
      have e93 : ρ (.tmp 93) = .int .i64 (a : Int) := ((hρ 93).trans (slotJ [4, 6] (by rw [hsz]; decide) (by kernel_rfl))).trans (hF 4 (by decide))
      have e95 : ρ (.tmp 95) = .int .i64 (sz : Int) := ((hρ 95).trans (slotJ [4, 6] (by rw [hsz]; decide) (by kernel_rfl))).trans (hF 6 (by decide))
      have kw0 : IntKind.i64.wrap (((a : Int) + (sz : Int))) = ((a : Int) + (sz : Int)) := wrapIn (by omega) (by omega)
      clear hρ hF hcst hfun sl7 sl8 sl11 sl12 fin
      exact opv_val (by go_simp <;> rfl) ⟨gw_self _, rfl⟩
    · refine owes_v (Go.Op.binOp Go.BinOp.sub 3 (Go.Operand.tmp 96) (Go.Operand.const (Go.Value.int Go.IntKind.i64 1)) 3) 3 [7] (by kernel_rfl) (by kernel_rfl) (by kernel_rfl) rfl fun vals w1 ρ hG hF hρ hcst hfun => ?_
      have e96 : ρ (.tmp 96) = .int .i64 ((a : Int) + (sz : Int)) := ((hρ 96).trans (slotJ [7] (by rw [hsz]; decide) (by kernel_rfl))).trans (hF 7 (by decide))
      have kw0 : IntKind.i64.wrap ((la : Int)) = (la : Int) := wrapIn (by omega) (by omega)
      clear hρ hF hfun sl7 sl8 sl11 sl12 fin
      exact opv_val (by go_simp <;> rfl) ⟨gw_self _, rfl⟩
    · refine owes_v (Go.Op.build 136 #[(0, Go.Operand.tmp 97), (1, Go.Operand.const (Go.Value.string { data := #[112, 97, 100] }))]) 136 [8] (by kernel_rfl) (by kernel_rfl) (by kernel_rfl) rfl fun vals w1 ρ hG hF hρ hcst hfun => ?_
      have e97 : ρ (.tmp 97) = .int .i64 (la : Int) := ((hρ 97).trans (slotJ [8] (by rw [hsz]; decide) (by kernel_rfl))).trans (hF 8 (by decide))
      clear hρ hF hfun sl7 sl8 sl11 sl12 fin
      exact opv_val (by go_simp <;> rfl) ⟨gw_self _, rfl⟩
    · refine owes_v (Go.Op.buildSlice 86 1 #[(0, Go.Operand.tmp 98)]) 86 [9] (by kernel_rfl) (by kernel_rfl) (by kernel_rfl) rfl fun vals w1 ρ hG hF hρ hcst hfun => ?_
      have e98 : ρ (.tmp 98) = .agg #[.int .i64 (la : Int), .string ⟨#[112, 97, 100]⟩] := ((hρ 98).trans (slotJ [9] (by rw [hsz]; decide) (by kernel_rfl))).trans (hF 9 (by decide))
      clear hρ hF hcst hfun sl7 sl8 sl11 sl12 fin
      exact opv_val (by go_simp <;> rfl) ⟨Gw.alloc _ _, ⟨_, rfl, hG.size, Bk.new w1 _ _⟩⟩
  · intro vals w1 hG hF
    exact next_spine2 (by kernel_rfl) (by kernel_rfl) (by kernel_rfl) (by kernel_rfl) (by kernel_rfl) (by kernel_rfl) (fin vals w1 hG (hF 0 (by decide +kernel)) (hF 10 (by decide +kernel)))
end Go.Proofs.Ytkkjnahjmomjgaa
/- The document's Found, of any words. Conditions: lengths. -/
namespace Go.Proofs.Ytkkjnahjmomjgaa
set_option linter.unusedVariables false
set_option linter.unusedSimpArgs false
open Go.RowKit Go.Maps
set_option maxHeartbeats 4000000
set_option maxRecDepth 100000
def badI : Option Nat → Int
  | none => -1
  | some x => (x : Int)
theorem rfoundG_c (w : World) (A : Option Addr) (c : Nat) (ws : List (BitVec 64)) (b t : Nat) (F : List Nat × Option Nat) (hr : Rd u64v w w.heap.size A ws) (hbt : b ≤ t) (htw : t ≤ ws.length) (hl : ws.length ≤ 8192) (hF : foundN ws t (t + 1) b = F) :
    Calls Try.prog 45 #[.slice A ws.length c, .int .i64 (b : Int), .int .i64 (t : Int)] w (fun r w' => ∃ A' c', r = .returned (.tuple #[.slice A' F.1.length c', .int .i64 (badI F.2)]) ∧ Ow iN 3 w' w.heap.size (.slice A' F.1.length c') F.1 ∧ Below w.heap.size w w') := by
  obtain ⟨N, hN⟩ : ∃ N, N = ws.length := ⟨_, rfl⟩
  have HX := Lib.hid (And.intro hr (And.intro hbt (And.intro htw (And.intro hl (And.intro hF hN)))))
  have HS0 : Hid (∃ pd n, Ow iN 3 w w.heap.size (.slice none 0 0) pd ∧ pd ++ (foundN ws t n b).1 = F.1 ∧ (foundN ws t n b).2 = F.2 ∧ t + 1 ≤ b + n ∧ Below w.heap.size w w) := Lib.hid ⟨[], t + 1, Ow.nil_ _ _ _ _, by rw [hF]; rfl, by rw [hF], by omega, Below.refl _ _⟩
  have tI : (t : Int) ≤ 8192 := by omega
  have bI : (b : Int) ≤ 8192 := by omega
  rw [← hN]
  clear hr hbt htw hl hF hN
  go_enter Try.func45, Try.ntmps45
  go_wp2_with fail
  go_loopw [8, 9] (fun o x W => ∃ a : Nat, x = .int .i64 a ∧ b ≤ a ∧ a ≤ t ∧ Hid (∃ pd n, Ow iN 3 W w.heap.size o pd ∧ pd ++ (foundN ws t n a).1 = F.1 ∧ (foundN ws t n a).2 = F.2 ∧ t + 1 ≤ a + n ∧ Below w.heap.size w W)) (fun _ x _ => t - (Go.RowKit.intOf x).toNat)
  case atStart => exact ⟨b, rfl, Nat.le_refl _, HX.out.2.1, HS0⟩
  case round =>
    obtain ⟨a, rfl, hba, hat, hS⟩ := hrel
    clear HS0
    obtain ⟨pd, n, e1, e3, e4, e5, e6⟩ := hS.out
    have p0 : (0 : Int) ≤ (a : Int) := by omega
    by_cases hlt : a < t
    · have p1 : (a : Int) < (t : Int) := by omega
      obtain ⟨x, hx⟩ : ∃ x, x = ws.getD a 0#64 := ⟨_, rfl⟩
      obtain ⟨m, rfl⟩ : ∃ m, n = m + 1 := ⟨n - 1, by omega⟩
      have hal : a < ws.length := by have := HX.out.2.2.1; omega
      unfold foundN at e3 e4
      rw [if_pos hlt, ← hx] at e3 e4
      by_cases hg : goodX x (t - a) = true
      · rw [if_pos hg] at e3 e4
        obtain ⟨hv, hP64, hB1024, hsx, hsz, hroom⟩ := head_of hg
        have HUn := Lib.hid (fun W => runpack_false x (goodX_out hg).2.1 W)
        rw [hv] at HUn
        obtain ⟨P, hP⟩ : ∃ P, P = P0 x := ⟨_, rfl⟩
        obtain ⟨nb, hn⟩ : ∃ P, P = B0 x := ⟨_, rfl⟩
        obtain ⟨sz, hszz⟩ : ∃ P, P = szX x := ⟨_, rfl⟩
        rw [← hP, ← hn] at HUn hsz
        rw [← hszz] at hsz hroom e3 e4
        have hs1 : 1 ≤ sz := by rw [hszz, hsx]; omega
        have HSz := Lib.hid (fun W => rsize_c (P : Int) (nb : Int) false 0 W)
        rw [hsz] at HSz
        obtain ⟨ad, rfl, hadl, hcw⟩ := (HX.out.1.below e6) a hal
        have hcx : wr.cell? (ad.add a) = some (.int .u64 (U64 x)) := by
          rw [hcw, hx, List.getD_eq_getElem?_getD, List.getElem?_eq_getElem hal]; rfl
        have q6 : (a : Int) < (N : Int) := by have := HX.out.2.2.2.2.2; omega
        have hpl : pd.length ≤ 8192 := by
          have h1 := congrArg List.length e3
          have h2 := found_len ws t (t + 1) b
          rw [HX.out.2.2.2.2.1] at h2
          have := HX.out.2.2.2.1
          have := HX.out.2.2.1
          simp at h1 h2
          omega
        have HE := Lib.hid (And.intro e1 (And.intro e3 (And.intro e4 (And.intro e5 (And.intro e6 hpl)))))
        have z1 : (sz : Int) ≤ (t : Int) - (a : Int) := by omega
        have z2 : (1 : Int) ≤ (sz : Int) := by omega
        clear e1 e3 e4 e5 e6 hS hx hg hv hsx hsz hP hn hszz hpl hroom hcw hadl
        go_wp2_with fail
        refine Calls.mono (HUn.out wr) ?_
        rintro r w3 ⟨rfl, b3⟩
        have H3 := Lib.hid b3
        clear b3 hcx
        go_wp2_with fail
        obtain ⟨Hb, hHb⟩ : ∃ H, H = w3.heap.size := ⟨_, rfl⟩
        obtain ⟨w4, hw4⟩ : ∃ w3', w3' = w3.alloc (.cells #[.int .i64 (P : Int), .int .i64 (nb : Int), .bool false, .int .i64 0] 81) := ⟨_, rfl⟩
        have hbk : Bk w4 Hb 81 #[.int .i64 (P : Int), .int .i64 (nb : Int), .bool false, .int .i64 0] := by rw [hw4, hHb]; exact Bk.new w3 _ _
        have b34 : Below w3.heap.size w3 w4 := by rw [hw4]; exact Gw.alloc w3 _
        rw [← hw4, ← hHb]
        obtain ⟨g0, g1, g2, g3⟩ := hbk.four
        have hHl := hbk.lt
        have HBk := Lib.hid (And.intro hbk (And.intro (H3.out.trans (b34.mono H3.out.size)) (show wr.heap.size ≤ Hb by have := H3.out.size; omega)))
        clear hw4 hHb b34 hbk
        go_wp2_with fail
        refine Calls.mono (HSz.out w4) ?_
        rintro r w5 ⟨rfl, hG⟩
        have b5 := HBk.out.2.1.trans (hG.mono HBk.out.2.1.size)
        have hbk5 := HBk.out.1.below hG HBk.out.1.lt
        have H5 := Lib.hid (And.intro b5 hbk5)
        have HO := Lib.hid (HE.out.1.below b5)
        have HLn := Lib.hid (show pd.length + [a].length ≤ 4294967296 by have := HE.out.2.2.2.2.2; simp; omega)
        have HBs := Lib.hid (show w.heap.size ≤ w5.heap.size by have := HE.out.2.2.2.2.1.size; have := b5.size; omega)
        clear hG b5 g0 g1 g2 g3 hHl hbk5
        go_wp2_with (at_builtin; refine wp_app oneI iN_one rfl (.tmp 40) (.tmp 42) rfl w.heap.size _ pd rfl (HO.out.alloc _) (some ⟨w5.heap.size, 0, none⟩) 1 1 [a] rfl rfl (w5.heap.size + 1) (rdN_new w5 a) HLn.out (by decide) (Nat.le_trans HBs.out (Gw.alloc w5 _).size) ?_; intro v6 w6 ho6 hb6 hg6 hv6; have hk6 := (H5.out.2.alloc (.cells #[.int .i64 (a : Int)] 3)).grownK hg6 (fun e => by have := (HE.out.1.lt Hb e.symm).2; have := HBk.out.2.2; omega); obtain ⟨g0, g1, g2, g3⟩ := hk6.four; have hHl := hk6.lt; have HK := Lib.hid (And.intro ho6 (And.intro hg6 (show w.heap.size ≤ w.heap.size from Nat.le_refl _))); clear ho6 hb6 hg6 hv6 hk6)
        refine Calls.mono (HSz.out w6) ?_
        rintro r w10 ⟨rfl, b10⟩
        have HN : Hid (∃ pd n, Ow iN 3 w10 w.heap.size v6 pd ∧ pd ++ (foundN ws t n (a + sz)).1 = F.1 ∧ (foundN ws t n (a + sz)).2 = F.2 ∧ t + 1 ≤ a + sz + n ∧ Below w.heap.size w w10) := by
          obtain ⟨ho6, hg6, _⟩ := HK.out
          obtain ⟨e1, e3, e4, e5, e6, hpl⟩ := HE.out
          have b5 := H5.out.1
          have h5 := e6.trans (b5.mono e6.size)
          have h56 : Below w.heap.size w5 w6 := ((Gw.alloc w5 _).mono h5.size).trans ((Kept.grown hg6).below (by have := (Gw.alloc w5 (.cells #[.int .i64 (a : Int)] 3)).size; have := h5.size; omega) (fun k hk => (e1.lt k hk).1))
          have h6 := h5.trans h56
          exact Lib.hid ⟨pd ++ [a], m, ho6.below b10, by rw [List.append_assoc]; exact e3, e4, by omega, h6.trans (b10.mono h6.size)⟩
        have zt : a + sz ≤ t := by omega
        have zb : b ≤ a + sz := by omega
        obtain ⟨nx, hnx⟩ : ∃ nx, nx = a + sz := ⟨_, rfl⟩
        rw [← hnx] at HN zt zb
        have z4 : (a : Int) + (sz : Int) = (nx : Int) := by omega
        have z5 : (nx : Int) ≤ 8192 := by omega
        have z6 : a < nx := by omega
        clear b10 g0 g1 g2 g3 hHl hnx
        go_wp2_with fail
        go_roundw
        case rel => first | exact ⟨nx, by go_num, zb, zt, HN⟩ | ((repeat apply Exists.intro); refine ⟨?_, rfl⟩; exact ⟨nx, by go_num, zb, zt, HN⟩)
        case measure => simp [Go.RowKit.intOf]; omega
      · rw [if_neg hg] at e3 e4
        have hpd : pd = F.1 := by rw [← e3]; exact (List.append_nil _).symm
        obtain ⟨oA, oc, eo, _⟩ := e1.form
        rw [hpd] at eo
        have HE := Lib.hid (And.intro e1 (And.intro hpd (And.intro (show F.2 = some a from e4.symm) (And.intro eo e6))))
        have HUn := Lib.hid (fun W => runpack_c x W)
        obtain ⟨ad, rfl, hadl, hcw⟩ := (HX.out.1.below e6) a hal
        have hcx : wr.cell? (ad.add a) = some (.int .u64 (U64 x)) := by
          rw [hcw, hx, List.getD_eq_getElem?_getD, List.getElem?_eq_getElem hal]; rfl
        have q6 : (a : Int) < (N : Int) := by have := HX.out.2.2.2.2.2; omega
        by_cases hok : okU x = false
        · rw [unV_no hok] at HUn
          clear e1 e3 e4 e5 e6 hS hx hg hpd eo hcw hadl
          go_wp2_with fail
          refine Calls.mono (HUn.out wr) ?_
          rintro r w3 ⟨rfl, b3⟩
          have H3 := Lib.hid b3
          clear b3 hcx
          go_wp2_with fail
          have BB := Lib.hid (H3.out.trans ((Gw.alloc w3 (.cells #[.int .i64 0, .int .i64 0, .bool false, .int .i64 0] 81)).mono H3.out.size))
          go_ret2
          obtain ⟨e1, hp, hb, eo, e6⟩ := HE.out
          rw [hp] at e1
          refine ⟨oA, oc, by rw [eo, hb]; rfl, (eo ▸ e1).below BB.out, e6.trans (BB.out.mono e6.size)⟩
        · have hok : okU x = true := by simpa using hok
          by_cases hmv : fM x = true
          · rw [unV_yes hok, hmv] at HUn
            obtain ⟨xP, hxP⟩ : ∃ z, z = fP x := ⟨_, rfl⟩
            obtain ⟨xB, hxB⟩ : ∃ z, z = fB x := ⟨_, rfl⟩
            obtain ⟨xT, hxT⟩ : ∃ z, z = fT x := ⟨_, rfl⟩
            rw [← hxP, ← hxB, ← hxT] at HUn
            clear hxP hxB hxT hmv
            clear e1 e3 e4 e5 e6 hS hx hg hpd eo hcw hadl
            go_wp2_with fail
            refine Calls.mono (HUn.out wr) ?_
            rintro r w3 ⟨rfl, b3⟩
            have H3 := Lib.hid b3
            clear b3 hcx
            go_wp2_with fail
            obtain ⟨Hb, hHb⟩ : ∃ H, H = w3.heap.size := ⟨_, rfl⟩
            obtain ⟨w4, hw4⟩ : ∃ w3', w3' = w3.alloc (.cells #[.int .i64 xP, .int .i64 xB, .bool true, .int .i64 xT] 81) := ⟨_, rfl⟩
            have hbk : Bk w4 Hb 81 #[.int .i64 xP, .int .i64 xB, .bool true, .int .i64 xT] := by rw [hw4, hHb]; exact Bk.new w3 _ _
            have b34 : Below w3.heap.size w3 w4 := by rw [hw4]; exact Gw.alloc w3 _
            rw [← hw4, ← hHb]
            have H4 := Lib.hid (H3.out.trans (b34.mono H3.out.size))
            obtain ⟨g0, g1, g2, g3⟩ := hbk.four
            have hHl := hbk.lt
            clear hw4 hHb b34 hbk
            have BB := H4
            go_wp2_with fail
            go_ret2
            obtain ⟨e1, hp, hb, eo, e6⟩ := HE.out
            rw [hp] at e1
            refine ⟨oA, oc, by rw [eo, hb]; rfl, (eo ▸ e1).below BB.out, e6.trans (BB.out.mono e6.size)⟩
          · have hmv : fM x = false := by simpa using hmv
            obtain ⟨P, nb, n1, n2, n3, n4, n5, n6, n7⟩ := head_nums hok hmv
            rw [unV_yes hok, hmv, n1, n2, n3] at HUn
            obtain ⟨sz, hszz⟩ : ∃ z, z = szX x := ⟨_, rfl⟩
            rw [← hszz] at n7 n6
            have hbig : t - a < sz := by
              rw [hszz]
              have h1 : ¬ szX x ≤ t - a := fun h => hg (by unfold goodX; rw [hok, hmv, decide_eq_true h]; rfl)
              omega
            have z1 : (t : Int) - (a : Int) < (sz : Int) := by omega
            have z2 : (sz : Int) ≤ 1000 := by omega
            have HSz := Lib.hid (fun W => rsize_c (P : Int) (nb : Int) false 0 W)
            rw [n7] at HSz
            clear n1 n2 n3 n4 n5 n6 n7 hszz hbig hmv
            clear e1 e3 e4 e5 e6 hS hx hg hpd eo hcw hadl
            go_wp2_with fail
            refine Calls.mono (HUn.out wr) ?_
            rintro r w3 ⟨rfl, b3⟩
            have H3 := Lib.hid b3
            clear b3 hcx
            go_wp2_with fail
            obtain ⟨Hb, hHb⟩ : ∃ H, H = w3.heap.size := ⟨_, rfl⟩
            obtain ⟨w4, hw4⟩ : ∃ w3', w3' = w3.alloc (.cells #[.int .i64 (P : Int), .int .i64 (nb : Int), .bool false, .int .i64 0] 81) := ⟨_, rfl⟩
            have hbk : Bk w4 Hb 81 #[.int .i64 (P : Int), .int .i64 (nb : Int), .bool false, .int .i64 0] := by rw [hw4, hHb]; exact Bk.new w3 _ _
            have b34 : Below w3.heap.size w3 w4 := by rw [hw4]; exact Gw.alloc w3 _
            rw [← hw4, ← hHb]
            have H4 := Lib.hid (H3.out.trans (b34.mono H3.out.size))
            obtain ⟨g0, g1, g2, g3⟩ := hbk.four
            have hHl := hbk.lt
            clear hw4 hHb b34 hbk
            go_wp2_with fail
            refine Calls.mono (HSz.out w4) ?_
            rintro r w5 ⟨rfl, b5⟩
            have BB := Lib.hid (H4.out.trans (b5.mono H4.out.size))
            clear b5 g0 g1 g2 g3 hHl
            go_wp2_with fail
            go_ret2
            obtain ⟨e1, hp, hb, eo, e6⟩ := HE.out
            rw [hp] at e1
            refine ⟨oA, oc, by rw [eo, hb]; rfl, (eo ▸ e1).below BB.out, e6.trans (BB.out.mono e6.size)⟩
    · have p1 : ¬ (a : Int) < (t : Int) := by omega
      have hF2 : foundN ws t n a = ([], none) := by
        cases n with
        | zero => rfl
        | succ m => unfold foundN; rw [if_neg hlt]
      rw [hF2] at e3 e4
      have hpd : pd = F.1 := by rw [← e3]; exact (List.append_nil _).symm
      obtain ⟨oA, oc, eo, _⟩ := e1.form
      rw [hpd] at eo
      have HE := Lib.hid (And.intro e1 (And.intro hpd (And.intro (show F.2 = none from e4.symm) (And.intro eo e6))))
      clear e1 e3 e4 e5 e6 hS hF2 hpd eo
      go_wp2_with fail
      go_ret2
      obtain ⟨e1, hp, hb, eo, e6⟩ := HE.out
      rw [hp] at e1
      refine ⟨oA, oc, by rw [eo, hb]; rfl, eo ▸ e1, e6⟩
end Go.Proofs.Ytkkjnahjmomjgaa
/- The document's Space, of any words. Conditions: lengths. -/
namespace Go.Proofs.Ytkkjnahjmomjgaa
set_option linter.unusedVariables false
set_option linter.unusedSimpArgs false
open Go.RowKit Go.Maps
set_option maxHeartbeats 8000000
set_option maxRecDepth 100000
/-- What stands besides the findings. -/
structure KBs (w1 : World) (R : Nat) (v : Value) (lo hi : Nat) (W : World) : Prop where
  b : Below w1.heap.size w1 W
  k : Bk W R 165 #[v, .int .i64 (lo : Int), .int .i64 (hi : Int), .int .i64 (hi : Int)]
theorem KBs.go {w1 W W' : World} {R : Nat} {v : Value} {b t : Nat} (h : KBs w1 R v b t W) (hb : Below W.heap.size W W') : KBs w1 R v b t W' := ⟨h.b.trans (hb.mono h.b.size), h.k.below hb h.k.lt⟩
theorem KBs.app {w1 W W' : World} {R : Nat} {v : Value} {b t : Nat} (h : KBs w1 R v b t W) {o : Value} (hg : W.grownBy W' o.ownBlock) (hn : ∀ k, o.ownBlock = some k → w1.heap.size ≤ k ∧ k ≠ R) : KBs w1 R v b t W' :=
  ⟨h.b.trans ((Kept.grown hg).below h.b.size (fun k hk => (hn k hk).1)), (Kept.grown hg).bk h.k (fun hh => (hn R hh).2 rfl)⟩
theorem rfr_slice {w : World} {B : Nat} {v : Value} {l : List (Nat × ByteArray)} (h : rFR w B v l) : ∃ A n c, v = .slice A n c := by
  obtain ⟨A, c, e, _⟩ := h.slice_
  exact ⟨A, _, c, e⟩
theorem rspaceG_c (w : World) (A : Option Addr) (c : Nat) (ws : List (BitVec 64)) (b t : Nat) (l : List Nat) (bd : Option Nat) (hr : Rd u64v w w.heap.size A ws) (hbt : b ≤ t) (htw : t ≤ ws.length) (hl : ws.length ≤ 8192) (hF : foundN ws t (t + 1) b = (l, bd)) (hlen : (badF bd ++ allE ws l l).length ≤ 5000) :
    Calls Try.prog 80 #[.slice A ws.length c, .int .i64 (b : Int), .int .i64 (t : Int)] w (fun r w' => ∃ lv, r = .returned lv ∧ rFR w' w.heap.size lv (badF bd ++ allE ws l l) ∧ Below w.heap.size w w') := by
  have HFd := Lib.hid (rfoundG_c w A c ws b t (l, bd) hr hbt htw hl hF)
  simp only at HFd
  have hpg : ∀ a ∈ l, b ≤ a ∧ a < t ∧ goodX (ws.getD a 0#64) (t - a) = true := fun a ha => found_good ws t (t + 1) b a (by rw [hF]; exact ha)
  have hpl : l.length ≤ 8192 := by
    have h2 := found_len ws t (t + 1) b
    rw [hF] at h2
    have h3 : l.length ≤ t - b := h2
    omega
  obtain ⟨N, hN⟩ : ∃ N, N = ws.length := ⟨_, rfl⟩
  obtain ⟨M, hM⟩ : ∃ N, N = l.length := ⟨_, rfl⟩
  have HX := Lib.hid (And.intro hr (And.intro htw (And.intro hl (And.intro hpg (And.intro hN (And.intro hM hpl))))))
  obtain ⟨G, hG⟩ : ∃ G, G = badF bd ++ allE ws l l := ⟨_, rfl⟩
  have HG := Lib.hid (And.intro hG (show G.length ≤ 5000 by rw [hG]; exact hlen))
  have tI : (t : Int) ≤ 8192 := by omega
  have bI : (b : Int) ≤ 8192 := by omega
  have MI : (M : Int) ≤ 8192 := by omega
  rw [← hN] at HFd ⊢
  rw [← hM] at HFd
  rw [← hG]
  clear hr hbt htw hl hF hN hpg hpl hM hG hlen
  go_enter Try.func80, Try.ntmps80
  go_wp2_with fail
  refine Calls.mono HFd.out ?_
  rintro r w1 ⟨pA, pc, rfl, hp1, b1⟩
  have H1 := Lib.hid (And.intro hp1 b1)
  clear hp1 b1
  cases bd with
  | none =>
    have hbi : badI none = -1 := rfl
    rw [hbi]
    have HOo := Lib.hid (show rFR w1 w1.heap.size (.slice none 0 0) (badF none) ∧ Below w1.heap.size w1 w1 ∧ True from ⟨rFR.nil _ _, Below.refl _ _, trivial⟩)
    go_wp2_with fail
    obtain ⟨R, hR⟩ : ∃ R, R = w1.heap.size := ⟨_, rfl⟩
    obtain ⟨w3, hw3⟩ : ∃ w3, w3 = w1.alloc (.cells #[.slice A N c, .int .i64 (b : Int), .int .i64 (t : Int), .int .i64 (t : Int)] 165) := ⟨_, rfl⟩
    have hbk : Bk w3 R 165 #[.slice A N c, .int .i64 (b : Int), .int .i64 (t : Int), .int .i64 (t : Int)] := by rw [hw3, hR]; exact Bk.new w1 _ _
    have b13 : Below w1.heap.size w1 w3 := by rw [hw3]; exact Gw.alloc w1 _
    rw [← hw3, ← hR]
    have hRw : w1.heap.size ≤ R := by rw [hR]; exact HOo.out.2.1.size
    have HK3 := Lib.hid (show KBs w1 R (.slice A N c) b t w3 from ⟨HOo.out.2.1.trans (b13.mono HOo.out.2.1.size), hbk⟩)
    have HRd := Lib.hid (show Rd u64v w1 w1.heap.size A ws ∧ Rd iN w1 w1.heap.size pA l ∧ w1.heap.size ≤ R from ⟨(HX.out.1.below H1.out.2).more H1.out.2.size, by
      have h := H1.out.1
      have e : M = l.length := HX.out.2.2.2.2.2.1
      rw [e] at h
      exact h.rd, hRw⟩)
    have HS0 : Hid (∃ fs', rFR w3 w1.heap.size (.slice none 0 0) fs' ∧ fs' ++ allE ws l (l.drop 0) = G ∧ KBs w1 R (.slice A N c) b t w3 ∧ (∀ k, ((.slice none 0 0) : Value).ownBlock = some k → k ≠ R)) := Lib.hid ⟨badF none, HOo.out.1.below b13, by rw [HG.out.1]; rfl, HK3.out, fun k hk => by have := (HOo.out.1.lt k hk).2; omega⟩
    clear hw3 hR hbk b13 hRw
    go_loopw [7, 11] (fun o x W => ∃ i : Nat, x = .int .i64 i ∧ i ≤ M ∧ Hid (∃ fs', rFR W w1.heap.size o fs' ∧ fs' ++ allE ws l (l.drop i) = G ∧ KBs w1 R (.slice A N c) b t W ∧ (∀ k, o.ownBlock = some k → k ≠ R))) (fun _ x _ => M - (Go.RowKit.intOf x).toNat)
    case atStart => exact ⟨0, rfl, Nat.zero_le _, HS0⟩
    case round =>
      obtain ⟨i, rfl, hi, hS⟩ := hrel
      clear HS0
      obtain ⟨fs', e1, e2, e3, e4R⟩ := hS.out
      have i0 : (0 : Int) ≤ (i : Int) := by omega
      by_cases hlt : i < M
      · have i1 : (i : Int) < (M : Int) := by omega
        have hil : i < l.length := by have := HX.out.2.2.2.2.2.1; omega
        obtain ⟨a, ha⟩ : ∃ a, a = l[i] := ⟨_, rfl⟩
        obtain ⟨adp, rfl, hadp, hcp⟩ := HRd.out.2.1 i hil
        rw [← ha] at hcp
        unfold iN at hcp
        have hal0 : a ∈ l := by rw [ha]; exact List.getElem_mem _
        obtain ⟨g1, g2, hg⟩ := HX.out.2.2.2.1 a hal0
        obtain ⟨x, hx⟩ : ∃ x, x = ws.getD a 0#64 := ⟨_, rfl⟩
        rw [← hx] at hg
        obtain ⟨hv, hP64, hB1024, hsx, hsz, hroom⟩ := head_of hg
        have HUn := Lib.hid (fun W => runpack_false x (goodX_out hg).2.1 W)
        rw [hv] at HUn
        obtain ⟨P, hP⟩ : ∃ P, P = P0 x := ⟨_, rfl⟩
        obtain ⟨nb, hn⟩ : ∃ P, P = B0 x := ⟨_, rfl⟩
        obtain ⟨sz, hszz⟩ : ∃ P, P = szX x := ⟨_, rfl⟩
        rw [← hP] at HUn hsz hP64 hsx
        rw [← hn] at HUn hsz hB1024 hsx
        rw [← hszz] at hsz hroom hsx
        have HSz := Lib.hid (fun W => rsize_c (P : Int) (nb : Int) false 0 W)
        rw [hsz] at HSz
        have hal : a < ws.length := by have := HX.out.2.1; omega
        obtain ⟨ad, rfl, hadl, hcw⟩ := HRd.out.1 a hal
        have hcx : w1.cell? (ad.add a) = some (.int .u64 (U64 x)) := by
          rw [hcw, hx, List.getD_eq_getElem?_getD, List.getElem?_eq_getElem hal]; rfl
        have q6 : (a : Int) < (N : Int) := by have := HX.out.2.2.2.2.1; omega
        have a0 : (0 : Int) ≤ (a : Int) := by omega
        have aI : (a : Int) ≤ 8192 := by omega
        have hl9 : (adp.add i).block < w1.heap.size := by rw [add_block]; exact hadp
        have hl8 : ∀ j, (ad.add j).block < w1.heap.size := fun j => by rw [add_block]; exact hadl
        have HC := Lib.hid (fun W (hb : KBs w1 R (.slice (some ad) N c) b t W) => show (adp.add i).block < W.heap.size ∧ W.cell? (adp.add i) = some (.int .i64 (a : Int)) ∧ W.cell? (ad.add a) = some (.int .u64 (U64 x)) from ⟨Nat.lt_of_lt_of_le hl9 hb.b.size, (hb.b.cell (p := adp.add i) hl9).trans hcp, (hb.b.cell (p := ad.add a) (hl8 a)).trans hcx⟩)
        have HPad := Lib.hid (fun W (hb : KBs w1 R (.slice (some ad) N c) b t W) => rpad_c W R (some ad) c ws b t t ⟨by rw [← HX.out.2.2.2.2.1]; exact hb.k, (HRd.out.1.below hb.b).more hb.b.size⟩ (by have := HX.out.2.2.1; omega) a P nb sz hP64 hB1024 hsz (by omega) (by have := HX.out.2.1; omega) (by omega))
        have hpd : (!padB ws (8 * (a + 1 + P) + nb) (8 * (a + sz) - (8 * (a + 1 + P) + nb))) = !padN ws a := by unfold padN; rw [← hx, ← hP, ← hn, ← hszz]
        rw [hpd] at HPad
        obtain ⟨pr, hpr⟩ : ∃ pr, pr = padN ws a := ⟨_, rfl⟩
        rw [← hpr] at HPad
        have hdr : l.drop i = a :: l.drop (i + 1) := by rw [List.drop_eq_getElem_cons hil, ha]
        rw [hdr] at e2
        obtain ⟨G2, hG2⟩ : ∃ G2, G2 = fs' ++ ptrF ws l a P 0 := ⟨_, rfl⟩
        have hpf : padF ws a = if pr = true then [] else [(a + sz - 1, ⟨#[112, 97, 100]⟩)] := by unfold padF; rw [← hpr, ← hx, ← hszz]; rfl
        have e2' : G2 ++ (if pr = true then [] else [(a + sz - 1, ⟨#[112, 97, 100]⟩)]) ++ allE ws l (l.drop (i + 1)) = G := by
          rw [hG2, ← hpf, ← e2]
          show fs' ++ ptrF ws l a P 0 ++ padF ws a ++ _ = fs' ++ (objE ws l a ++ _)
          unfold objE
          rw [← hx, ← hP]
          simp only [List.append_assoc]
        have hG2l : G2.length ≤ 5000 := by
          have h := HG.out.2
          rw [← e2', List.length_append, List.length_append] at h
          omega
        have HE := Lib.hid (And.intro e1 (And.intro e2' (And.intro e3 (And.intro hG2 (And.intro hG2l e4R)))))
        have HA := Lib.hid (And.intro hx (And.intro hsx (And.intro hroom (And.intro g1 g2))))
        obtain ⟨hcl, hcp', hcx'⟩ := HC.out wr e3
        have PI : (P : Int) ≤ 64 := by omega
        have s1 : (1 : Int) ≤ (sz : Int) := by omega
        have s2 : (sz : Int) ≤ 8192 := by omega
        have sPa : a + 1 + P ≤ ws.length := by have := HX.out.2.1; omega
        clear e1 e2 e2' e3 e4R hS ha hdr hil hal0 hg hv hsx hsz hroom hP hn hszz hx hcw hcx hcp hadl hadp hl9 hl8 hpd hpr hpf hG2 hG2l g1 g2 hal hP64 hB1024
        go_wp2_with fail
        refine Calls.mono (HUn.out wr) ?_
        rintro r w4 ⟨rfl, b4⟩
        have H4 := Lib.hid b4
        clear b4 hcl hcp' hcx'
        go_wp2_with fail
        obtain ⟨Hb, hHb⟩ : ∃ H, H = w4.heap.size := ⟨_, rfl⟩
        obtain ⟨w5, hw5⟩ : ∃ w3', w3' = w4.alloc (.cells #[.int .i64 (P : Int), .int .i64 (nb : Int), .bool false, .int .i64 0] 81) := ⟨_, rfl⟩
        have hbk : Bk w5 Hb 81 #[.int .i64 (P : Int), .int .i64 (nb : Int), .bool false, .int .i64 0] := by rw [hw5, hHb]; exact Bk.new w4 _ _
        have b45 : Below w4.heap.size w4 w5 := by rw [hw5]; exact Gw.alloc w4 _
        rw [← hw5, ← hHb]
        have b5 := H4.out.trans (b45.mono H4.out.size)
        have hHw : wr.heap.size ≤ Hb := by have := H4.out.size; omega
        have HS1 : Hid (∃ fs2, rFR w5 w1.heap.size u7 fs2 ∧ fs2 ++ ptrF ws l a (P - 0) 0 = G2 ∧ Bk w5 Hb 81 #[.int .i64 (P : Int), .int .i64 (nb : Int), .bool false, .int .i64 0] ∧ (∀ k, u7.ownBlock = some k → k ≠ Hb ∧ k ≠ R) ∧ KBs w1 R (.slice (some ad) N c) b t w5) := Lib.hid ⟨fs', HE.out.1.below b5, HE.out.2.2.2.1.symm, hbk, fun k hk => ⟨fun e => by have := (HE.out.1.lt k hk).2; omega, HE.out.2.2.2.2.2 k hk⟩, HE.out.2.2.1.go b5⟩
        clear hw5 hHb b45 hbk b5 hHw
        go_loopw [7, 14] (fun o x W => ∃ k : Nat, x = .int .i64 k ∧ k ≤ P ∧ Hid (∃ fs2, rFR W w1.heap.size o fs2 ∧ fs2 ++ ptrF ws l a (P - k) k = G2 ∧ Bk W Hb 81 #[.int .i64 (P : Int), .int .i64 (nb : Int), .bool false, .int .i64 0] ∧ (∀ k, o.ownBlock = some k → k ≠ Hb ∧ k ≠ R) ∧ KBs w1 R (.slice (some ad) N c) b t W)) (fun _ x _ => P - (Go.RowKit.intOf x).toNat)
        case atStart => exact ⟨0, rfl, Nat.zero_le _, HS1⟩
        case round =>
          obtain ⟨k, rfl, hk, hS⟩ := hrel
          clear HS1
          obtain ⟨fs2, e1, e2, e3, e4, e5⟩ := hS.out
          obtain ⟨hcl, hcp, hcx⟩ := HC.out wr e5
          obtain ⟨g0, g1, g2, g3⟩ := e3.four
          have hHl := e3.lt
          have k0 : (0 : Int) ≤ (k : Int) := by omega
          by_cases hkP : k < P
          · have k1 : (k : Int) < (P : Int) := by omega
            obtain ⟨q, hq⟩ : ∃ q, q = a + 1 + k := ⟨_, rfl⟩
            have hql : q < ws.length := by omega
            have q8 : (a : Int) + 1 + (k : Int) = (q : Int) := by omega
            have q9 : (q : Int) < (N : Int) := by have := HX.out.2.2.2.2.1; omega
            have q7 : (0 : Int) ≤ (q : Int) := by omega
            obtain ⟨ad2, had2, hadl2, hcw2⟩ := ((HRd.out.1.below e5.b).more e5.b.size) q hql
            injection had2 with had2
            subst had2
            obtain ⟨y, hy⟩ : ∃ y, y = ws[q] := ⟨_, rfl⟩
            rw [← hy] at hcw2
            have hcy : wr.cell? (ad.add q) = some (.int .u64 (U64 y)) := hcw2
            have hye : ws.getD (a + 1 + k) 0#64 = y := by rw [← hq, hy, List.getD_eq_getElem?_getD, List.getElem?_eq_getElem hql]; rfl
            have hMl : M = l.length := HX.out.2.2.2.2.2.1
            have HPt := Lib.hid (points_c wr (some adp) pc l ((HRd.out.2.1.below e5.b).more e5.b.size) (by have := HX.out.2.2.2.2.2.2; omega) (fun z hz => by have := (HX.out.2.2.2.1 z hz).2.1; omega) y)
            obtain ⟨r, hr⟩ : ∃ r, r = decide (y.toNat = 0 ∨ (1 ≤ y.toNat ∧ y.toNat - 1 ∈ l)) := ⟨_, rfl⟩
            have hpn : ptrN ws l a k = r := by unfold ptrN; rw [hye, hr]
            rw [← hr, ← hMl] at HPt
            obtain ⟨j, hj⟩ : ∃ j, P - k = j + 1 := ⟨P - k - 1, by omega⟩
            rw [hj, ptrF_at, hpn] at e2
            have hj2 : P - (k + 1) = j := by omega
            have hfl : fs2.length ≤ 5000 := by
              have h := HE.out.2.2.2.2.1
              rw [← e2, List.length_append] at h
              omega
            have HE2 := Lib.hid (And.intro e1 (And.intro e2 (And.intro e3 (And.intro e4 (And.intro e5 (And.intro hj2 (And.intro hq hfl)))))))
            have qI : (q : Int) ≤ 8192 := by have := HX.out.2.2.1; omega
            obtain ⟨yv, hyv⟩ : ∃ yv, yv = U64 y := ⟨_, rfl⟩
            rw [← hyv] at hcy HPt
            clear e1 e2 e3 e4 e5 hS hy hye hr hpn hj hj2 hq hyv hcw2 hadl2 hMl hfl
            cases r with
            | true =>
              go_wp2_with fail
              refine Calls.mono HPt.out ?_
              rintro r w7 ⟨rfl, b7⟩
              have HN : Hid (∃ fs2, rFR w7 w1.heap.size u7 fs2 ∧ fs2 ++ ptrF ws l a (P - (k + 1)) (k + 1) = G2 ∧ Bk w7 Hb 81 #[.int .i64 (P : Int), .int .i64 (nb : Int), .bool false, .int .i64 0] ∧ (∀ k, u7.ownBlock = some k → k ≠ Hb ∧ k ≠ R) ∧ KBs w1 R (.slice (some ad) N c) b t w7) := by
                obtain ⟨e1, e2, e3, e4, e5, hj2, hq, hfl⟩ := HE2.out
                exact Lib.hid ⟨fs2, e1.below b7, by rw [hj2]; exact e2, e3.below b7 e3.lt, e4, e5.go b7⟩
              clear b7 hcl hcp hcx hcy g0 g1 g2 g3
              go_wp2_with fail
              go_roundw
              case rel => first | exact ⟨k + 1, by go_num, by omega, HN⟩ | ((repeat apply Exists.intro); refine ⟨?_, rfl⟩; exact ⟨k + 1, by go_num, by omega, HN⟩)
              case measure => simp [Go.RowKit.intOf]; omega
            | false =>
              go_wp2_with fail
              refine Calls.mono HPt.out ?_
              rintro r w7 ⟨rfl, b7⟩
              have H7 := Lib.hid b7
              have hcp := (b7.cell (p := adp.add i) hcl).trans hcp
              have hcl := Nat.lt_of_lt_of_le hcl b7.size
              have HO := Lib.hid (HE2.out.1.below b7)
              have HLn := Lib.hid (show fs2.length + [(q, (⟨#[112, 116, 114]⟩ : ByteArray))].length ≤ 100000 by have := HE2.out.2.2.2.2.2.2.2; simp; omega)
              have HBs := Lib.hid (show w1.heap.size ≤ w7.heap.size by have := HE2.out.2.2.2.2.1.b.size; have := b7.size; omega)
              clear b7 hcx hcy g0 g1 g2 g3
              go_wp2_with (at_builtin; refine rwp_appF rfl (.tmp 71) (.tmp 80) rfl rfl (HO.out.below (Gw.alloc w7 _)) (some ⟨w7.heap.size, 0, none⟩) 1 1 [(q, ⟨#[112, 116, 114]⟩)] rfl rfl (rrdF_new w7 q _) HLn.out (Nat.le_trans HBs.out (Gw.alloc w7 _).size) ?_; intro v8 w8 ho8 hb8 hg8 hv8; have H8 := Lib.hid (And.intro ho8 (And.intro hg8 hv8)); clear ho8 hb8 hg8 hv8)
              have HN : Hid (∃ fs2, rFR w8 w1.heap.size v8 fs2 ∧ fs2 ++ ptrF ws l a (P - (k + 1)) (k + 1) = G2 ∧ Bk w8 Hb 81 #[.int .i64 (P : Int), .int .i64 (nb : Int), .bool false, .int .i64 0] ∧ (∀ k, v8.ownBlock = some k → k ≠ Hb ∧ k ≠ R) ∧ KBs w1 R (.slice (some ad) N c) b t w8) := by
                obtain ⟨e1, e2, e3, e4, e5, hj2, hq, hfl⟩ := HE2.out
                obtain ⟨ho8, hg8, hv8⟩ := H8.out
                have b7 := H7.out
                have hH7 := (e3.below b7 e3.lt)
                have hHl7 := hH7.lt
                have hA := Gw.alloc w7 (.cells #[.int .i64 (q : Int), .string ⟨#[112, 116, 114]⟩] 136)
                have h7 := e5.go b7
                refine Lib.hid ⟨fs2 ++ [(q, ⟨#[112, 116, 114]⟩)], ho8, ?_, (hH7.alloc _).grownK hg8 (fun e => (e4 Hb e.symm).1 rfl), fun k2 hk2 => ?_, ?_⟩
                · rw [hj2, ← e2, hq, List.append_assoc]
                  rfl
                · rcases hv8 with h | h
                  · rw [h] at hk2; exact e4 k2 hk2
                  · rw [h] at hk2
                    injection hk2 with hk2
                    have := hA.size
                    have := h7.k.lt
                    exact ⟨by omega, by omega⟩
                · exact (h7.go hA).app hg8 (fun k2 hk2 => ⟨(e1.lt k2 hk2).1, (e4 k2 hk2).2⟩)
              clear hcp hcl
              go_roundw
              case rel => first | exact ⟨k + 1, by go_num, by omega, HN⟩ | ((repeat apply Exists.intro); refine ⟨?_, rfl⟩; exact ⟨k + 1, by go_num, by omega, HN⟩)
              case measure => simp [Go.RowKit.intOf]; omega
          · have k1 : ¬ (k : Int) < (P : Int) := by omega
            have hfs : fs2 = G2 := by rw [← e2, show P - k = 0 by omega]; exact (List.append_nil _).symm
            have HE2 := Lib.hid (And.intro e1 (And.intro hfs (And.intro e3 (And.intro e4 e5))))
            have HPd := Lib.hid (fun W (hb : Below wr.heap.size wr W) => HPad.out W (e5.go hb))
            clear e1 e2 e3 e4 e5 hS hfs hcx
            go_wp2_with fail
            refine rs15 _ _ _ Hb R i a M adp (some adp) pc (P : Int) (nb : Int) (!pr) hHl g0 g1 g2 g3 rfl hcl hcp i0 i1 HPd rfl ?_ ?_ ?_ ?_ ?_
            · rfl
            · rfl
            · rfl
            · rfl
            intro vals7 w7 hG h88
            unfold IsV at h88
            simp only [putD, Act.put, List.setIfInBounds_toArray, List.set_cons_zero, List.set_cons_succ, h88]
            have H7 := Lib.hid hG
            have hcp := (hG.cell (p := adp.add i) hcl).trans hcp
            have hcl := Nat.lt_of_lt_of_le hcl hG.size
            have g0 := (hG.cell (p := ⟨Hb, 0, none⟩) hHl).trans g0
            have g1 := (hG.cell (p := ⟨Hb, 1, none⟩) hHl).trans g1
            have g2 := (hG.cell (p := ⟨Hb, 2, none⟩) hHl).trans g2
            have g3 := (hG.cell (p := ⟨Hb, 3, none⟩) hHl).trans g3
            have hHl := Nat.lt_of_lt_of_le hHl hG.size
            clear hG h88
            cases pr with
            | true =>
              have HN : Hid (∃ fs', rFR w7 w1.heap.size u7 fs' ∧ fs' ++ allE ws l (l.drop (i + 1)) = G ∧ KBs w1 R (.slice (some ad) N c) b t w7 ∧ (∀ k, u7.ownBlock = some k → k ≠ R)) := by
                obtain ⟨e1, hfs, e3, e4, e5⟩ := HE2.out
                have h := HE.out.2.1
                rw [if_pos rfl, List.append_nil] at h
                exact Lib.hid ⟨fs2, e1.below H7.out, by rw [hfs]; exact h, e5.go H7.out, fun k hk => (e4 k hk).2⟩
              clear g0 g1 g2 g3 hcp
              go_wp2_with fail
              go_roundw
              case rel => first | exact ⟨i + 1, by go_num, by omega, HN⟩ | ((repeat apply Exists.intro); refine ⟨?_, rfl⟩; exact ⟨i + 1, by go_num, by omega, HN⟩)
              case measure => simp [Go.RowKit.intOf]; omega
            | false =>
              obtain ⟨la, hla⟩ : ∃ la, la = a + sz - 1 := ⟨_, rfl⟩
              have la2 : (a : Int) + (sz : Int) - 1 = (la : Int) := by omega
              have HLa := Lib.hid hla
              go_wp2_with fail
              refine rs16 _ _ _ Hb i a M sz la adp (some adp) pc (P : Int) (nb : Int) u7 hHl g0 g1 g2 g3 rfl hcl hcp i0 i1 la2 aI s2 a0 s1 HSz rfl ?_ ?_ ?_ ?_ ?_
              · rfl
              · rfl
              · rfl
              · rfl
              intro vals8 w8 hG8 h89 h99
              obtain ⟨q8, h99, hq8, hb8⟩ := h99
              unfold IsV at h89
              simp only [putD, Act.put, List.setIfInBounds_toArray, List.set_cons_zero, List.set_cons_succ, h89, h99]
              have HO := Lib.hid ((HE2.out.1.below H7.out).below hG8)
              have H8 := Lib.hid hG8
              have HLn := Lib.hid (show fs2.length + [(la, (⟨#[112, 97, 100]⟩ : ByteArray))].length ≤ 100000 by have := HE.out.2.2.2.2; have := HE2.out.2.1; rw [this]; simp; omega)
              refine rwp_appF rfl (.tmp 89) (.tmp 99) rfl rfl HO.out (some ⟨q8, 0, none⟩) 1 1 [(la, ⟨#[112, 97, 100]⟩)] rfl rfl (rrdF_bk la _ hb8) HLn.out (by have := HE2.out.2.2.2.2.b.size; have := H7.out.size; have := hG8.size; omega) ?_
              intro v9 w9 ho9 hb9 hg9 hv9
              refine ⟨rfl, trivial, ?_⟩
              have HN : Hid (∃ fs', rFR w9 w1.heap.size v9 fs' ∧ fs' ++ allE ws l (l.drop (i + 1)) = G ∧ KBs w1 R (.slice (some ad) N c) b t w9 ∧ (∀ k, v9.ownBlock = some k → k ≠ R)) := by
                obtain ⟨e1, hfs, e3, e4, e5⟩ := HE2.out
                have h := HE.out.2.1
                rw [if_neg (by decide), ← HLa.out] at h
                have h7 := e5.go H7.out
                have h8 := h7.go hG8
                exact Lib.hid ⟨fs2 ++ [(la, ⟨#[112, 97, 100]⟩)], ho9, by rw [hfs]; exact h, h8.app hg9 (fun k2 hk2 => ⟨(e1.lt k2 hk2).1, (e4 k2 hk2).2⟩), fun k2 hk2 => by
                  rcases hv9 with hv | hv
                  · rw [hv] at hk2; exact (e4 k2 hk2).2
                  · rw [hv] at hk2
                    injection hk2 with hk2
                    have := h8.k.lt
                    omega⟩
              clear ho9 hb9 hg9 hv9 hG8 h89 h99 hb8 hq8 g0 g1 g2 g3 hcp
              go_wp2_with fail
              go_roundw
              case rel => first | exact ⟨i + 1, by go_num, by omega, HN⟩ | ((repeat apply Exists.intro); refine ⟨?_, rfl⟩; exact ⟨i + 1, by go_num, by omega, HN⟩)
              case measure => simp [Go.RowKit.intOf]; omega
      · have i1 : ¬ (i : Int) < (M : Int) := by omega
        have hfs : fs' = G := by
          have hMl : M = l.length := HX.out.2.2.2.2.2.1
          rw [← e2, List.drop_of_length_le (by omega)]
          exact (List.append_nil _).symm
        have HE := Lib.hid (And.intro e1 (And.intro hfs e3))
        clear e1 e2 e3 e4R hS hfs
        go_wp2_with fail
        go_ret
        obtain ⟨e1, hfs, e3⟩ := HE.out
        have hb := H1.out.2.trans (e3.b.mono H1.out.2.size)
        refine ⟨u7, rfl, ?_, hb⟩
        rw [← hfs]
        exact ⟨e1.1, e1.2.imp id fun ⟨q, cap, cur, h1, h2, h3⟩ => ⟨q, cap, cur, h1, Nat.le_trans H1.out.2.size h2, h3⟩⟩
  | some x0 =>
    have hbi : badI (some x0) = (x0 : Int) := rfl
    rw [hbi]
    have x00 : (0 : Int) ≤ (x0 : Int) := by omega
    go_wp2_with (at_builtin; refine rwp_appF rfl (.tmp 24) (.tmp 27) rfl rfl (rFR.nil _ w1.heap.size) (some ⟨w1.heap.size, 0, none⟩) 1 1 [(x0, ⟨#[104, 101, 97, 100]⟩)] rfl rfl (rrdF_new w1 x0 _) (by simp) (Gw.alloc w1 _).size ?_; intro v2 w2 ho2 hb2 hg2 hv2; obtain ⟨oA, oN, oC, e2o⟩ := rfr_slice ho2; subst e2o; have HOo := Lib.hid (show rFR w2 w1.heap.size (.slice oA oN oC) (badF (some x0)) ∧ Below w1.heap.size w1 w2 ∧ True from ⟨ho2, (Gw.alloc w1 _).trans hb2, trivial⟩); clear ho2 hb2 hg2 hv2)
    obtain ⟨R, hR⟩ : ∃ R, R = w2.heap.size := ⟨_, rfl⟩
    obtain ⟨w3, hw3⟩ : ∃ w3, w3 = w2.alloc (.cells #[.slice A N c, .int .i64 (b : Int), .int .i64 (t : Int), .int .i64 (t : Int)] 165) := ⟨_, rfl⟩
    have hbk : Bk w3 R 165 #[.slice A N c, .int .i64 (b : Int), .int .i64 (t : Int), .int .i64 (t : Int)] := by rw [hw3, hR]; exact Bk.new w2 _ _
    have b13 : Below w2.heap.size w2 w3 := by rw [hw3]; exact Gw.alloc w2 _
    rw [← hw3, ← hR]
    have hRw : w1.heap.size ≤ R := by rw [hR]; exact HOo.out.2.1.size
    have HK3 := Lib.hid (show KBs w1 R (.slice A N c) b t w3 from ⟨HOo.out.2.1.trans (b13.mono HOo.out.2.1.size), hbk⟩)
    have HRd := Lib.hid (show Rd u64v w1 w1.heap.size A ws ∧ Rd iN w1 w1.heap.size pA l ∧ w1.heap.size ≤ R from ⟨(HX.out.1.below H1.out.2).more H1.out.2.size, by
      have h := H1.out.1
      have e : M = l.length := HX.out.2.2.2.2.2.1
      rw [e] at h
      exact h.rd, hRw⟩)
    have HS0 : Hid (∃ fs', rFR w3 w1.heap.size (.slice oA oN oC) fs' ∧ fs' ++ allE ws l (l.drop 0) = G ∧ KBs w1 R (.slice A N c) b t w3 ∧ (∀ k, ((.slice oA oN oC) : Value).ownBlock = some k → k ≠ R)) := Lib.hid ⟨badF (some x0), HOo.out.1.below b13, by rw [HG.out.1]; rfl, HK3.out, fun k hk => by have := (HOo.out.1.lt k hk).2; omega⟩
    clear hw3 hR hbk b13 hRw
    go_loopw [7, 11] (fun o x W => ∃ i : Nat, x = .int .i64 i ∧ i ≤ M ∧ Hid (∃ fs', rFR W w1.heap.size o fs' ∧ fs' ++ allE ws l (l.drop i) = G ∧ KBs w1 R (.slice A N c) b t W ∧ (∀ k, o.ownBlock = some k → k ≠ R))) (fun _ x _ => M - (Go.RowKit.intOf x).toNat)
    case atStart => exact ⟨0, rfl, Nat.zero_le _, HS0⟩
    case round =>
      obtain ⟨i, rfl, hi, hS⟩ := hrel
      clear HS0
      obtain ⟨fs', e1, e2, e3, e4R⟩ := hS.out
      have i0 : (0 : Int) ≤ (i : Int) := by omega
      by_cases hlt : i < M
      · have i1 : (i : Int) < (M : Int) := by omega
        have hil : i < l.length := by have := HX.out.2.2.2.2.2.1; omega
        obtain ⟨a, ha⟩ : ∃ a, a = l[i] := ⟨_, rfl⟩
        obtain ⟨adp, rfl, hadp, hcp⟩ := HRd.out.2.1 i hil
        rw [← ha] at hcp
        unfold iN at hcp
        have hal0 : a ∈ l := by rw [ha]; exact List.getElem_mem _
        obtain ⟨g1, g2, hg⟩ := HX.out.2.2.2.1 a hal0
        obtain ⟨x, hx⟩ : ∃ x, x = ws.getD a 0#64 := ⟨_, rfl⟩
        rw [← hx] at hg
        obtain ⟨hv, hP64, hB1024, hsx, hsz, hroom⟩ := head_of hg
        have HUn := Lib.hid (fun W => runpack_false x (goodX_out hg).2.1 W)
        rw [hv] at HUn
        obtain ⟨P, hP⟩ : ∃ P, P = P0 x := ⟨_, rfl⟩
        obtain ⟨nb, hn⟩ : ∃ P, P = B0 x := ⟨_, rfl⟩
        obtain ⟨sz, hszz⟩ : ∃ P, P = szX x := ⟨_, rfl⟩
        rw [← hP] at HUn hsz hP64 hsx
        rw [← hn] at HUn hsz hB1024 hsx
        rw [← hszz] at hsz hroom hsx
        have HSz := Lib.hid (fun W => rsize_c (P : Int) (nb : Int) false 0 W)
        rw [hsz] at HSz
        have hal : a < ws.length := by have := HX.out.2.1; omega
        obtain ⟨ad, rfl, hadl, hcw⟩ := HRd.out.1 a hal
        have hcx : w1.cell? (ad.add a) = some (.int .u64 (U64 x)) := by
          rw [hcw, hx, List.getD_eq_getElem?_getD, List.getElem?_eq_getElem hal]; rfl
        have q6 : (a : Int) < (N : Int) := by have := HX.out.2.2.2.2.1; omega
        have a0 : (0 : Int) ≤ (a : Int) := by omega
        have aI : (a : Int) ≤ 8192 := by omega
        have hl9 : (adp.add i).block < w1.heap.size := by rw [add_block]; exact hadp
        have hl8 : ∀ j, (ad.add j).block < w1.heap.size := fun j => by rw [add_block]; exact hadl
        have HC := Lib.hid (fun W (hb : KBs w1 R (.slice (some ad) N c) b t W) => show (adp.add i).block < W.heap.size ∧ W.cell? (adp.add i) = some (.int .i64 (a : Int)) ∧ W.cell? (ad.add a) = some (.int .u64 (U64 x)) from ⟨Nat.lt_of_lt_of_le hl9 hb.b.size, (hb.b.cell (p := adp.add i) hl9).trans hcp, (hb.b.cell (p := ad.add a) (hl8 a)).trans hcx⟩)
        have HPad := Lib.hid (fun W (hb : KBs w1 R (.slice (some ad) N c) b t W) => rpad_c W R (some ad) c ws b t t ⟨by rw [← HX.out.2.2.2.2.1]; exact hb.k, (HRd.out.1.below hb.b).more hb.b.size⟩ (by have := HX.out.2.2.1; omega) a P nb sz hP64 hB1024 hsz (by omega) (by have := HX.out.2.1; omega) (by omega))
        have hpd : (!padB ws (8 * (a + 1 + P) + nb) (8 * (a + sz) - (8 * (a + 1 + P) + nb))) = !padN ws a := by unfold padN; rw [← hx, ← hP, ← hn, ← hszz]
        rw [hpd] at HPad
        obtain ⟨pr, hpr⟩ : ∃ pr, pr = padN ws a := ⟨_, rfl⟩
        rw [← hpr] at HPad
        have hdr : l.drop i = a :: l.drop (i + 1) := by rw [List.drop_eq_getElem_cons hil, ha]
        rw [hdr] at e2
        obtain ⟨G2, hG2⟩ : ∃ G2, G2 = fs' ++ ptrF ws l a P 0 := ⟨_, rfl⟩
        have hpf : padF ws a = if pr = true then [] else [(a + sz - 1, ⟨#[112, 97, 100]⟩)] := by unfold padF; rw [← hpr, ← hx, ← hszz]; rfl
        have e2' : G2 ++ (if pr = true then [] else [(a + sz - 1, ⟨#[112, 97, 100]⟩)]) ++ allE ws l (l.drop (i + 1)) = G := by
          rw [hG2, ← hpf, ← e2]
          show fs' ++ ptrF ws l a P 0 ++ padF ws a ++ _ = fs' ++ (objE ws l a ++ _)
          unfold objE
          rw [← hx, ← hP]
          simp only [List.append_assoc]
        have hG2l : G2.length ≤ 5000 := by
          have h := HG.out.2
          rw [← e2', List.length_append, List.length_append] at h
          omega
        have HE := Lib.hid (And.intro e1 (And.intro e2' (And.intro e3 (And.intro hG2 (And.intro hG2l e4R)))))
        have HA := Lib.hid (And.intro hx (And.intro hsx (And.intro hroom (And.intro g1 g2))))
        obtain ⟨hcl, hcp', hcx'⟩ := HC.out wr e3
        have PI : (P : Int) ≤ 64 := by omega
        have s1 : (1 : Int) ≤ (sz : Int) := by omega
        have s2 : (sz : Int) ≤ 8192 := by omega
        have sPa : a + 1 + P ≤ ws.length := by have := HX.out.2.1; omega
        clear e1 e2 e2' e3 e4R hS ha hdr hil hal0 hg hv hsx hsz hroom hP hn hszz hx hcw hcx hcp hadl hadp hl9 hl8 hpd hpr hpf hG2 hG2l g1 g2 hal hP64 hB1024
        go_wp2_with fail
        refine Calls.mono (HUn.out wr) ?_
        rintro r w4 ⟨rfl, b4⟩
        have H4 := Lib.hid b4
        clear b4 hcl hcp' hcx'
        go_wp2_with fail
        obtain ⟨Hb, hHb⟩ : ∃ H, H = w4.heap.size := ⟨_, rfl⟩
        obtain ⟨w5, hw5⟩ : ∃ w3', w3' = w4.alloc (.cells #[.int .i64 (P : Int), .int .i64 (nb : Int), .bool false, .int .i64 0] 81) := ⟨_, rfl⟩
        have hbk : Bk w5 Hb 81 #[.int .i64 (P : Int), .int .i64 (nb : Int), .bool false, .int .i64 0] := by rw [hw5, hHb]; exact Bk.new w4 _ _
        have b45 : Below w4.heap.size w4 w5 := by rw [hw5]; exact Gw.alloc w4 _
        rw [← hw5, ← hHb]
        have b5 := H4.out.trans (b45.mono H4.out.size)
        have hHw : wr.heap.size ≤ Hb := by have := H4.out.size; omega
        have HS1 : Hid (∃ fs2, rFR w5 w1.heap.size u7 fs2 ∧ fs2 ++ ptrF ws l a (P - 0) 0 = G2 ∧ Bk w5 Hb 81 #[.int .i64 (P : Int), .int .i64 (nb : Int), .bool false, .int .i64 0] ∧ (∀ k, u7.ownBlock = some k → k ≠ Hb ∧ k ≠ R) ∧ KBs w1 R (.slice (some ad) N c) b t w5) := Lib.hid ⟨fs', HE.out.1.below b5, HE.out.2.2.2.1.symm, hbk, fun k hk => ⟨fun e => by have := (HE.out.1.lt k hk).2; omega, HE.out.2.2.2.2.2 k hk⟩, HE.out.2.2.1.go b5⟩
        clear hw5 hHb b45 hbk b5 hHw
        go_loopw [7, 14] (fun o x W => ∃ k : Nat, x = .int .i64 k ∧ k ≤ P ∧ Hid (∃ fs2, rFR W w1.heap.size o fs2 ∧ fs2 ++ ptrF ws l a (P - k) k = G2 ∧ Bk W Hb 81 #[.int .i64 (P : Int), .int .i64 (nb : Int), .bool false, .int .i64 0] ∧ (∀ k, o.ownBlock = some k → k ≠ Hb ∧ k ≠ R) ∧ KBs w1 R (.slice (some ad) N c) b t W)) (fun _ x _ => P - (Go.RowKit.intOf x).toNat)
        case atStart => exact ⟨0, rfl, Nat.zero_le _, HS1⟩
        case round =>
          obtain ⟨k, rfl, hk, hS⟩ := hrel
          clear HS1
          obtain ⟨fs2, e1, e2, e3, e4, e5⟩ := hS.out
          obtain ⟨hcl, hcp, hcx⟩ := HC.out wr e5
          obtain ⟨g0, g1, g2, g3⟩ := e3.four
          have hHl := e3.lt
          have k0 : (0 : Int) ≤ (k : Int) := by omega
          by_cases hkP : k < P
          · have k1 : (k : Int) < (P : Int) := by omega
            obtain ⟨q, hq⟩ : ∃ q, q = a + 1 + k := ⟨_, rfl⟩
            have hql : q < ws.length := by omega
            have q8 : (a : Int) + 1 + (k : Int) = (q : Int) := by omega
            have q9 : (q : Int) < (N : Int) := by have := HX.out.2.2.2.2.1; omega
            have q7 : (0 : Int) ≤ (q : Int) := by omega
            obtain ⟨ad2, had2, hadl2, hcw2⟩ := ((HRd.out.1.below e5.b).more e5.b.size) q hql
            injection had2 with had2
            subst had2
            obtain ⟨y, hy⟩ : ∃ y, y = ws[q] := ⟨_, rfl⟩
            rw [← hy] at hcw2
            have hcy : wr.cell? (ad.add q) = some (.int .u64 (U64 y)) := hcw2
            have hye : ws.getD (a + 1 + k) 0#64 = y := by rw [← hq, hy, List.getD_eq_getElem?_getD, List.getElem?_eq_getElem hql]; rfl
            have hMl : M = l.length := HX.out.2.2.2.2.2.1
            have HPt := Lib.hid (points_c wr (some adp) pc l ((HRd.out.2.1.below e5.b).more e5.b.size) (by have := HX.out.2.2.2.2.2.2; omega) (fun z hz => by have := (HX.out.2.2.2.1 z hz).2.1; omega) y)
            obtain ⟨r, hr⟩ : ∃ r, r = decide (y.toNat = 0 ∨ (1 ≤ y.toNat ∧ y.toNat - 1 ∈ l)) := ⟨_, rfl⟩
            have hpn : ptrN ws l a k = r := by unfold ptrN; rw [hye, hr]
            rw [← hr, ← hMl] at HPt
            obtain ⟨j, hj⟩ : ∃ j, P - k = j + 1 := ⟨P - k - 1, by omega⟩
            rw [hj, ptrF_at, hpn] at e2
            have hj2 : P - (k + 1) = j := by omega
            have hfl : fs2.length ≤ 5000 := by
              have h := HE.out.2.2.2.2.1
              rw [← e2, List.length_append] at h
              omega
            have HE2 := Lib.hid (And.intro e1 (And.intro e2 (And.intro e3 (And.intro e4 (And.intro e5 (And.intro hj2 (And.intro hq hfl)))))))
            have qI : (q : Int) ≤ 8192 := by have := HX.out.2.2.1; omega
            obtain ⟨yv, hyv⟩ : ∃ yv, yv = U64 y := ⟨_, rfl⟩
            rw [← hyv] at hcy HPt
            clear e1 e2 e3 e4 e5 hS hy hye hr hpn hj hj2 hq hyv hcw2 hadl2 hMl hfl
            cases r with
            | true =>
              go_wp2_with fail
              refine Calls.mono HPt.out ?_
              rintro r w7 ⟨rfl, b7⟩
              have HN : Hid (∃ fs2, rFR w7 w1.heap.size u7 fs2 ∧ fs2 ++ ptrF ws l a (P - (k + 1)) (k + 1) = G2 ∧ Bk w7 Hb 81 #[.int .i64 (P : Int), .int .i64 (nb : Int), .bool false, .int .i64 0] ∧ (∀ k, u7.ownBlock = some k → k ≠ Hb ∧ k ≠ R) ∧ KBs w1 R (.slice (some ad) N c) b t w7) := by
                obtain ⟨e1, e2, e3, e4, e5, hj2, hq, hfl⟩ := HE2.out
                exact Lib.hid ⟨fs2, e1.below b7, by rw [hj2]; exact e2, e3.below b7 e3.lt, e4, e5.go b7⟩
              clear b7 hcl hcp hcx hcy g0 g1 g2 g3
              go_wp2_with fail
              go_roundw
              case rel => first | exact ⟨k + 1, by go_num, by omega, HN⟩ | ((repeat apply Exists.intro); refine ⟨?_, rfl⟩; exact ⟨k + 1, by go_num, by omega, HN⟩)
              case measure => simp [Go.RowKit.intOf]; omega
            | false =>
              go_wp2_with fail
              refine Calls.mono HPt.out ?_
              rintro r w7 ⟨rfl, b7⟩
              have H7 := Lib.hid b7
              have hcp := (b7.cell (p := adp.add i) hcl).trans hcp
              have hcl := Nat.lt_of_lt_of_le hcl b7.size
              have HO := Lib.hid (HE2.out.1.below b7)
              have HLn := Lib.hid (show fs2.length + [(q, (⟨#[112, 116, 114]⟩ : ByteArray))].length ≤ 100000 by have := HE2.out.2.2.2.2.2.2.2; simp; omega)
              have HBs := Lib.hid (show w1.heap.size ≤ w7.heap.size by have := HE2.out.2.2.2.2.1.b.size; have := b7.size; omega)
              clear b7 hcx hcy g0 g1 g2 g3
              go_wp2_with (at_builtin; refine rwp_appF rfl (.tmp 71) (.tmp 80) rfl rfl (HO.out.below (Gw.alloc w7 _)) (some ⟨w7.heap.size, 0, none⟩) 1 1 [(q, ⟨#[112, 116, 114]⟩)] rfl rfl (rrdF_new w7 q _) HLn.out (Nat.le_trans HBs.out (Gw.alloc w7 _).size) ?_; intro v8 w8 ho8 hb8 hg8 hv8; have H8 := Lib.hid (And.intro ho8 (And.intro hg8 hv8)); clear ho8 hb8 hg8 hv8)
              have HN : Hid (∃ fs2, rFR w8 w1.heap.size v8 fs2 ∧ fs2 ++ ptrF ws l a (P - (k + 1)) (k + 1) = G2 ∧ Bk w8 Hb 81 #[.int .i64 (P : Int), .int .i64 (nb : Int), .bool false, .int .i64 0] ∧ (∀ k, v8.ownBlock = some k → k ≠ Hb ∧ k ≠ R) ∧ KBs w1 R (.slice (some ad) N c) b t w8) := by
                obtain ⟨e1, e2, e3, e4, e5, hj2, hq, hfl⟩ := HE2.out
                obtain ⟨ho8, hg8, hv8⟩ := H8.out
                have b7 := H7.out
                have hH7 := (e3.below b7 e3.lt)
                have hHl7 := hH7.lt
                have hA := Gw.alloc w7 (.cells #[.int .i64 (q : Int), .string ⟨#[112, 116, 114]⟩] 136)
                have h7 := e5.go b7
                refine Lib.hid ⟨fs2 ++ [(q, ⟨#[112, 116, 114]⟩)], ho8, ?_, (hH7.alloc _).grownK hg8 (fun e => (e4 Hb e.symm).1 rfl), fun k2 hk2 => ?_, ?_⟩
                · rw [hj2, ← e2, hq, List.append_assoc]
                  rfl
                · rcases hv8 with h | h
                  · rw [h] at hk2; exact e4 k2 hk2
                  · rw [h] at hk2
                    injection hk2 with hk2
                    have := hA.size
                    have := h7.k.lt
                    exact ⟨by omega, by omega⟩
                · exact (h7.go hA).app hg8 (fun k2 hk2 => ⟨(e1.lt k2 hk2).1, (e4 k2 hk2).2⟩)
              clear hcp hcl
              go_roundw
              case rel => first | exact ⟨k + 1, by go_num, by omega, HN⟩ | ((repeat apply Exists.intro); refine ⟨?_, rfl⟩; exact ⟨k + 1, by go_num, by omega, HN⟩)
              case measure => simp [Go.RowKit.intOf]; omega
          · have k1 : ¬ (k : Int) < (P : Int) := by omega
            have hfs : fs2 = G2 := by rw [← e2, show P - k = 0 by omega]; exact (List.append_nil _).symm
            have HE2 := Lib.hid (And.intro e1 (And.intro hfs (And.intro e3 (And.intro e4 e5))))
            have HPd := Lib.hid (fun W (hb : Below wr.heap.size wr W) => HPad.out W (e5.go hb))
            clear e1 e2 e3 e4 e5 hS hfs hcx
            go_wp2_with fail
            refine rs15 _ _ _ Hb R i a M adp (some adp) pc (P : Int) (nb : Int) (!pr) hHl g0 g1 g2 g3 rfl hcl hcp i0 i1 HPd rfl ?_ ?_ ?_ ?_ ?_
            · rfl
            · rfl
            · rfl
            · rfl
            intro vals7 w7 hG h88
            unfold IsV at h88
            simp only [putD, Act.put, List.setIfInBounds_toArray, List.set_cons_zero, List.set_cons_succ, h88]
            have H7 := Lib.hid hG
            have hcp := (hG.cell (p := adp.add i) hcl).trans hcp
            have hcl := Nat.lt_of_lt_of_le hcl hG.size
            have g0 := (hG.cell (p := ⟨Hb, 0, none⟩) hHl).trans g0
            have g1 := (hG.cell (p := ⟨Hb, 1, none⟩) hHl).trans g1
            have g2 := (hG.cell (p := ⟨Hb, 2, none⟩) hHl).trans g2
            have g3 := (hG.cell (p := ⟨Hb, 3, none⟩) hHl).trans g3
            have hHl := Nat.lt_of_lt_of_le hHl hG.size
            clear hG h88
            cases pr with
            | true =>
              have HN : Hid (∃ fs', rFR w7 w1.heap.size u7 fs' ∧ fs' ++ allE ws l (l.drop (i + 1)) = G ∧ KBs w1 R (.slice (some ad) N c) b t w7 ∧ (∀ k, u7.ownBlock = some k → k ≠ R)) := by
                obtain ⟨e1, hfs, e3, e4, e5⟩ := HE2.out
                have h := HE.out.2.1
                rw [if_pos rfl, List.append_nil] at h
                exact Lib.hid ⟨fs2, e1.below H7.out, by rw [hfs]; exact h, e5.go H7.out, fun k hk => (e4 k hk).2⟩
              clear g0 g1 g2 g3 hcp
              go_wp2_with fail
              go_roundw
              case rel => first | exact ⟨i + 1, by go_num, by omega, HN⟩ | ((repeat apply Exists.intro); refine ⟨?_, rfl⟩; exact ⟨i + 1, by go_num, by omega, HN⟩)
              case measure => simp [Go.RowKit.intOf]; omega
            | false =>
              obtain ⟨la, hla⟩ : ∃ la, la = a + sz - 1 := ⟨_, rfl⟩
              have la2 : (a : Int) + (sz : Int) - 1 = (la : Int) := by omega
              have HLa := Lib.hid hla
              go_wp2_with fail
              refine rs16 _ _ _ Hb i a M sz la adp (some adp) pc (P : Int) (nb : Int) u7 hHl g0 g1 g2 g3 rfl hcl hcp i0 i1 la2 aI s2 a0 s1 HSz rfl ?_ ?_ ?_ ?_ ?_
              · rfl
              · rfl
              · rfl
              · rfl
              intro vals8 w8 hG8 h89 h99
              obtain ⟨q8, h99, hq8, hb8⟩ := h99
              unfold IsV at h89
              simp only [putD, Act.put, List.setIfInBounds_toArray, List.set_cons_zero, List.set_cons_succ, h89, h99]
              have HO := Lib.hid ((HE2.out.1.below H7.out).below hG8)
              have H8 := Lib.hid hG8
              have HLn := Lib.hid (show fs2.length + [(la, (⟨#[112, 97, 100]⟩ : ByteArray))].length ≤ 100000 by have := HE.out.2.2.2.2; have := HE2.out.2.1; rw [this]; simp; omega)
              refine rwp_appF rfl (.tmp 89) (.tmp 99) rfl rfl HO.out (some ⟨q8, 0, none⟩) 1 1 [(la, ⟨#[112, 97, 100]⟩)] rfl rfl (rrdF_bk la _ hb8) HLn.out (by have := HE2.out.2.2.2.2.b.size; have := H7.out.size; have := hG8.size; omega) ?_
              intro v9 w9 ho9 hb9 hg9 hv9
              refine ⟨rfl, trivial, ?_⟩
              have HN : Hid (∃ fs', rFR w9 w1.heap.size v9 fs' ∧ fs' ++ allE ws l (l.drop (i + 1)) = G ∧ KBs w1 R (.slice (some ad) N c) b t w9 ∧ (∀ k, v9.ownBlock = some k → k ≠ R)) := by
                obtain ⟨e1, hfs, e3, e4, e5⟩ := HE2.out
                have h := HE.out.2.1
                rw [if_neg (by decide), ← HLa.out] at h
                have h7 := e5.go H7.out
                have h8 := h7.go hG8
                exact Lib.hid ⟨fs2 ++ [(la, ⟨#[112, 97, 100]⟩)], ho9, by rw [hfs]; exact h, h8.app hg9 (fun k2 hk2 => ⟨(e1.lt k2 hk2).1, (e4 k2 hk2).2⟩), fun k2 hk2 => by
                  rcases hv9 with hv | hv
                  · rw [hv] at hk2; exact (e4 k2 hk2).2
                  · rw [hv] at hk2
                    injection hk2 with hk2
                    have := h8.k.lt
                    omega⟩
              clear ho9 hb9 hg9 hv9 hG8 h89 h99 hb8 hq8 g0 g1 g2 g3 hcp
              go_wp2_with fail
              go_roundw
              case rel => first | exact ⟨i + 1, by go_num, by omega, HN⟩ | ((repeat apply Exists.intro); refine ⟨?_, rfl⟩; exact ⟨i + 1, by go_num, by omega, HN⟩)
              case measure => simp [Go.RowKit.intOf]; omega
      · have i1 : ¬ (i : Int) < (M : Int) := by omega
        have hfs : fs' = G := by
          have hMl : M = l.length := HX.out.2.2.2.2.2.1
          rw [← e2, List.drop_of_length_le (by omega)]
          exact (List.append_nil _).symm
        have HE := Lib.hid (And.intro e1 (And.intro hfs e3))
        clear e1 e2 e3 e4R hS hfs
        go_wp2_with fail
        go_ret
        obtain ⟨e1, hfs, e3⟩ := HE.out
        have hb := H1.out.2.trans (e3.b.mono H1.out.2.size)
        refine ⟨u7, rfl, ?_, hb⟩
        rw [← hfs]
        exact ⟨e1.1, e1.2.imp id fun ⟨q, cap, cur, h1, h2, h3⟩ => ⟨q, cap, cur, h1, Nat.le_trans H1.out.2.size h2, h3⟩⟩
end Go.Proofs.Ytkkjnahjmomjgaa
/- The document's Image, of any words. Conditions: lengths. -/
namespace Go.Proofs.Ytkkjnahjmomjgaa
set_option linter.unusedVariables false
set_option linter.unusedSimpArgs false
open Go.RowKit Go.Maps
set_option maxHeartbeats 8000000
set_option maxRecDepth 100000
theorem field_div48 (x : BitVec 64) : U64 (fieldB x 48 16) = U64 x / 281474976710656 := by
  have e : lowB 16 = 65535#64 := by decide
  unfold fieldB
  rw [if_pos (by decide), e]
  show U64 (x >>> 48 &&& 65535#64) = _
  have h : (x >>> 48 &&& 65535#64).toNat = x.toNat / 281474976710656 := by
    rw [BitVec.toNat_and, BitVec.toNat_ushiftRight]
    show (x.toNat >>> 48) &&& (2 ^ 16 - 1) = _
    rw [Nat.and_two_pow_sub_one_eq_mod, Nat.shiftRight_eq_div_pow]
    have := x.isLt
    omega
  unfold U64
  rw [h]
  rfl
/-- What stands besides what is told. -/
structure RIm (w : World) (pv : Value) (p : List Nat) (W : World) (o : Value) (fs : List (Nat × ByteArray)) : Prop where
  fr : rFR W w.heap.size o fs
  b : Below w.heap.size w W
  pp : Ow iN 3 W w.heap.size pv p
  dj : ∀ k, o.ownBlock = some k → pv.ownBlock ≠ some k
section
variable {w W W' : World} {pv o v' : Value} {p : List Nat} {fs fs' : List (Nat × ByteArray)}
theorem RIm.go (h : RIm w pv p W o fs) (hb : Below W.heap.size W W') : RIm w pv p W' o fs := ⟨h.fr.below hb, h.b.trans (hb.mono h.b.size), (Kept.of_below hb (fun _ => False)).ow h.pp (fun _ _ f => f), h.dj⟩
theorem RIm.app (h : RIm w pv p W o fs) {obj : Obj} (ho : rFR W' w.heap.size v' fs') (hb : Below w.heap.size (W.alloc obj) W') (hg : (W.alloc obj).grownBy W' o.ownBlock) (hv : v'.ownBlock = o.ownBlock ∨ v'.ownBlock = some (W.alloc obj).heap.size) : RIm w pv p W' v' fs' := by
  have h1 := h.go (Gw.alloc W obj)
  refine ⟨ho, h1.b.trans hb, (Kept.grown hg).ow h1.pp (fun k hk e => h1.dj k e hk), fun k hk => ?_⟩
  rcases hv with e | e
  · rw [e] at hk; exact h1.dj k hk
  · rw [e] at hk
    injection hk with hk
    intro hp
    have := (World.ownsRow.lt h1.pp k hp).2
    omega
end
theorem ow_more {α : Type} {f : α → Value} {E : TypeId} {w : World} {b0 b1 : Nat} {v : Value} {xs : List α} (h : Ow f E w b1 v xs) (hb : b0 ≤ b1) : Ow f E w b0 v xs := by
  rcases h with ⟨h1, h2 | ⟨g, cap, cur, a, b, c⟩⟩
  · exact ⟨h1, .inl h2⟩
  · exact ⟨h1, .inr ⟨g, cap, cur, a, Nat.le_trans hb b, c⟩⟩
def RiP (l : List (Nat × ByteArray)) (w : World) (r : Ending) (w' : World) : Prop := ∃ lv, r = .returned lv ∧ rFR w' w.heap.size lv l ∧ Below w.heap.size w w'
theorem rimageS_c (w : World) (A : Option Addr) (c : Nat) : Calls Try.prog 43 #[.slice A 0 c] w (RiP [(0, magicS), (1, sizeS)] w) := by
  go_enter Try.func43, Try.ntmps43
  go_wp2_with (at_builtin; first | (refine rwp_appF rfl (.tmp 21) (.tmp 23) rfl rfl (rFR.nil _ w.heap.size) (some ⟨w.heap.size, 0, none⟩) 1 1 [(0, magicS)] rfl rfl (rrdF_new w 0 magicS) (by decide) (Gw.alloc w _).size ?_; intro v1 w1 ho1 hb1 hg1 hj1; have H1 := Lib.hid (And.intro ho1 ((Gw.alloc w _).trans hb1)); clear hb1 hg1 hj1 ho1) | (refine rwp_appF rfl (.tmp 28) (.tmp 30) rfl rfl (H1.out.1.below (Gw.alloc w1 _)) (some ⟨w1.heap.size, 0, none⟩) 1 1 [(1, sizeS)] rfl rfl (rrdF_new w1 1 sizeS) (by decide) (Nat.le_trans H1.out.2.size (Gw.alloc w1 _).size) ?_; intro v3 w3 ho3 hb3 hg3 hj3; have H3 := Lib.hid (And.intro ho3 ((H1.out.2.trans ((Gw.alloc w1 _).mono H1.out.2.size)).trans hb3)); clear ho3 hb3 hg3 hj3))
  go_ret
  exact ⟨v3, rfl, H3.out.1, H3.out.2⟩
theorem rimageG_c (w : World) (A : Option Addr) (c : Nat) (ws : List (BitVec 64)) (hr : Rd u64v w w.heap.size A ws) (h8 : ws.length ≤ 8192) (hl : (imgF ws).length ≤ 5000) : Calls Try.prog 43 #[.slice A ws.length c] w (RiP (imgF ws) w) := by
  by_cases h0 : ws.length = 0
  · have e : imgF ws = [(0, magicS), (1, sizeS)] := by
      unfold imgF magF szOk
      rw [if_pos (.inl h0), if_neg (by rw [decide_eq_true_eq]; omega)]
      rfl
    rw [e, h0]
    exact rimageS_c w A c
  · obtain ⟨ad, rfl, hadl, ga⟩ := hr 0 (by omega)
    have e0 : ws.getD 0 0#64 = ws[0] := by rw [List.getD_eq_getElem?_getD, List.getElem?_eq_getElem (by omega)]; rfl
    have g0 : w.cell? ad = some (.int .u64 (U64 ws[0])) := ga
    rw [← e0] at g0
    clear ga
    obtain ⟨x0, hx0⟩ : ∃ x, x = ws.getD 0 0#64 := ⟨_, rfl⟩
    rw [← hx0] at g0
    obtain ⟨x1, hx1⟩ : ∃ x, x = ws.getD 1 0#64 := ⟨_, rfl⟩
    obtain ⟨E, hE⟩ : ∃ E, E = RiP (imgF ws) w := ⟨_, rfl⟩
    rw [← hE]
    have HE := Lib.hid hE
    obtain ⟨ok, hok⟩ : ∃ ok, ok = szOk ws := ⟨_, rfl⟩
    obtain ⟨R, hR⟩ : ∃ R, R = nRt ws := ⟨_, rfl⟩
    obtain ⟨n, hn⟩ : ∃ n, n = ws.length := ⟨_, rfl⟩
    have hR6 : R < 65536 := by rw [hR]; unfold nRt; exact Nat.mod_lt _ (by decide)
    have hG1 : 2 ≤ n → w.cell? ⟨ad.block, ad.off + 1, none⟩ = some (.int .u64 (U64 x1)) := fun h2 => by
      obtain ⟨ad', had', hl', g1⟩ := hr 1 (by omega)
      injection had' with had'
      subst had'
      have e1 : ws.getD 1 0#64 = ws[1] := by rw [List.getD_eq_getElem?_getD, List.getElem?_eq_getElem (by omega)]; rfl
      rw [hx1, e1]
      exact g1
    have HG1 := Lib.hid hG1
    have HSp := Lib.hid (fun W (b : Below w.heap.size w W) => fun (hb : 2 + 5 * R ≤ n) (hl2 : (badF (foundN ws n (n + 1) (2 + 5 * R)).2 ++ allE ws (foundN ws n (n + 1) (2 + 5 * R)).1 (foundN ws n (n + 1) (2 + 5 * R)).1).length ≤ 5000) => rspaceG_c W (some ad) c ws (2 + 5 * R) n (foundN ws n (n + 1) (2 + 5 * R)).1 (foundN ws n (n + 1) (2 + 5 * R)).2 ((hr.below b).more b.size) hb (by omega) h8 rfl hl2)
    have HFd := Lib.hid (fun W (b : Below w.heap.size w W) => fun (hb : 2 + 5 * R ≤ n) => rfoundG_c W (some ad) c ws (2 + 5 * R) n (foundN ws n (n + 1) (2 + 5 * R)) ((hr.below b).more b.size) hb (by omega) h8 rfl)
    have HNm := Lib.hid (fun W (b : Below w.heap.size w W) (a : Nat) (ha : a + 4 ≤ ws.length) => rname_c W (some ad) c ws ((hr.below b).more b.size) h8 a ha)
    rw [← hn] at HSp HFd HNm ⊢
    have HRd := Lib.hid hr
    obtain ⟨bb, hbb⟩ : ∃ bb, bb = 2 + 5 * R := ⟨_, rfl⟩
    rw [← hbb] at HSp HFd
    obtain ⟨mf, hmf⟩ : ∃ mf, mf = magF ws := ⟨_, rfl⟩
    have hml : mf.length ≤ 1 := by rw [hmf]; unfold magF; split <;> simp
    have himg : imgF ws = mf ++ (if ok = true then insF ws R else [(1, sizeS)]) := by unfold imgF; rw [hok, hR, hmf]
    have hoks : ok = decide (2 ≤ n ∧ U64 x1 / 281474976710656 = 0 ∧ U64 (fieldB x1 16 32) = (n : Int) ∧ R ≤ 64 ∧ bb ≤ n) := by
      rw [hok, hn, hR, hbb, hx1, ← field_div48, hR]
      rfl
    have h016 : U64 (fieldB x1 0 16) = (R : Int) := by rw [field_nR, hR, hx1]; rfl
    have HX := Lib.hid (And.intro hoks (And.intro hR (And.intro hn (And.intro hbb (And.intro h8 (And.intro himg (And.intro hl hml)))))))
    have HF0 := Lib.hid h016
    have n1 : ¬ (n : Int) = 0 := by omega
    have nI : (n : Int) ≤ 8192 := by omega
    have n3 : ¬ (8192 : Int) < (n : Int) := by omega
    have n2 : (1 : Int) ≤ (n : Int) := by omega
    have r2 : (R : Int) ≤ 65535 := by omega
    have r3 : (0 : Int) ≤ (R : Int) := by omega
    by_cases hmg : x0 = 1296125772#64
    · have hme : mf = [] := by rw [hmf]; unfold magF; rw [if_neg (by rw [← hx0]; intro h; rcases h with h | h; exact h0 h; exact h hmg)]
      have HMe := Lib.hid hme
      subst hmg
      replace g0 : w.cell? ad = some (.int .u64 1296125772) := g0
      have H0 := Lib.hid (show rFR w w.heap.size (.slice none 0 0) mf ∧ Below w.heap.size w w from ⟨by rw [hme]; exact rFR.nil _ _, Below.refl _ _⟩)
      have HL := Lib.hid hadl
      clear hE hr h8 hl hok hR hn hmf hml himg hx0 hx1 e0 h0 hR6 hme hadl hoks h016 hG1
      by_cases h2 : n < 2
      · have HN := Lib.hid (show ok = false from by rw [HX.out.1]; exact decide_eq_false (fun h => by omega))
        have k2 : (n : Int) < 2 := by omega
        clear hbb h2
        go_enter Try.func43, Try.ntmps43
        go_wp2_with (at_builtin; refine rwp_appF rfl (.tmp 28) (.tmp 30) rfl rfl (H0.out.1.below (Gw.alloc w _)) (some ⟨w.heap.size, 0, none⟩) 1 1 [(1, sizeS)] rfl rfl (rrdF_new w 1 sizeS) (by have := HX.out.2.2.2.2.2.2.2; simp; omega) (Nat.le_trans H0.out.2.size (Gw.alloc w _).size) ?_; intro v3 w3 ho3 hb3 hg3 hj3; have H3 := Lib.hid (And.intro ho3 ((H0.out.2.trans ((Gw.alloc w _).mono H0.out.2.size)).trans hb3)); clear ho3 hb3 hg3 hj3)
        rw [HE.out]
        exact ⟨v3, rfl, by rw [HX.out.2.2.2.2.2.1, if_neg (by rw [HN.out]; decide)]; exact H3.out.1, H3.out.2⟩
      · replace h2 : 2 ≤ n := by omega
        have k2 : ¬ (n : Int) < 2 := by omega
        have k4 : (1 : Int) < (n : Int) := by omega
        have hq := HL.out
        have g1 := HG1.out h2
        clear h2
        go_enter Try.func43, Try.ntmps43
        go_wp2_with fail
        refine Calls.mono (of_ansk (rfield_c x1 0 16 (by decide) (by decide) w)) ?_
        rintro r w1 ⟨u, rfl, b1, hu⟩
        unfold IsV at hu
        subst hu
        rw [HF0.out]
        have H1 := Lib.hid (show rFR w1 w.heap.size (.slice none 0 0) mf ∧ Below w.heap.size w w1 from ⟨H0.out.1.below b1, H0.out.2.trans (b1.mono H0.out.2.size)⟩)
        replace g1 := (b1.cell (p := ⟨ad.block, ad.off + 1, none⟩) hq).trans g1
        replace hq := Nat.lt_of_lt_of_le hq b1.size
        clear b1 H0
        obtain ⟨sh, hsh⟩ : ∃ s, s = U64 x1 / 281474976710656 := ⟨_, rfl⟩
        by_cases c1 : sh = 0
        · have hsh0 : U64 x1 / 281474976710656 = 0 := by rw [← hsh]; exact c1
          go_wp2_with fail
          refine Calls.mono (of_ansk (rfield_c x1 16 32 (by decide) (by decide) w1)) ?_
          rintro r w2 ⟨u, rfl, b2, hu⟩
          unfold IsV at hu
          subst hu
          have H2 := Lib.hid (show rFR w2 w.heap.size (.slice none 0 0) mf ∧ Below w.heap.size w w2 from ⟨H1.out.1.below b2, H1.out.2.trans (b2.mono H1.out.2.size)⟩)
          replace hq := Nat.lt_of_lt_of_le hq b2.size
          clear b2 H1 g1
          obtain ⟨a16, ha16⟩ : ∃ a, a = U64 (fieldB x1 16 32) := ⟨_, rfl⟩
          rw [← ha16]
          by_cases c2 : a16 = (n : Int)
          · by_cases c3 : R ≤ 64
            · have k3 : ¬ (64 : Int) < (R : Int) := by omega
              by_cases c4 : bb ≤ n
              · have HOk := Lib.hid (show ok = true from by rw [HX.out.1]; exact decide_eq_true ⟨by omega, hsh0, by rw [← ha16]; exact c2, c3, c4⟩)
                have k4 : ¬ (n : Int) < 2 + 5 * (R : Int) := by omega
                have kbb : 2 + 5 * (R : Int) = (bb : Int) := by omega
                subst c2
                have c3H := Lib.hid c3
                have c4H := Lib.hid c4
                clear hsh hsh0 ha16 c1 c3 c4 hbb
                have himg : imgF ws = mf ++ insF ws R := by rw [HX.out.2.2.2.2.2.1, if_pos HOk.out]
                obtain ⟨F, hF⟩ : ∃ F, F = foundN ws n (n + 1) bb := ⟨_, rfl⟩
                obtain ⟨G, hG⟩ : ∃ G, G = imgF ws := ⟨_, rfl⟩
                have hins : G = mf ++ ((badF F.2 ++ allE ws F.1 F.1) ++ rootF ws F.1 R 0 ⟨#[]⟩) := by rw [hG, himg, hF, HX.out.2.2.2.1, HX.out.2.2.1]; rfl
                have hGl : G.length ≤ 5000 := by rw [hG]; exact HX.out.2.2.2.2.2.2.1
                have hpl : F.1.length ≤ 8192 := by
                  have h2 := found_len ws n (n + 1) bb
                  rw [← hF] at h2
                  have := HX.out.2.2.2.2.1
                  have := HX.out.2.2.1
                  omega
                have hpg : ∀ a ∈ F.1, a < 1073741824 := fun a ha => by
                  obtain ⟨_, h2, _⟩ := found_good ws n (n + 1) bb a (by rw [← hF]; exact ha)
                  omega
                rw [← hF] at HSp HFd
                obtain ⟨p, hp⟩ : ∃ p, p = F.1 := ⟨_, rfl⟩
                obtain ⟨S, hS⟩ : ∃ S, S = badF F.2 ++ allE ws F.1 F.1 := ⟨_, rfl⟩
                rw [← hS, ← hp] at hins
                rw [← hp] at hpl hpg HFd
                rw [← hp] at hS
                rw [← hp, ← hS] at HSp
                have HG := Lib.hid (And.intro hG (And.intro hins (And.intro hGl (And.intro hpl hpg))))
                have hSl : S.length ≤ 5000 := by have h := hGl; rw [hins, List.length_append, List.length_append] at h; omega
                have HSl := Lib.hid hSl
                clear himg hG hins hGl hpl hpg hF hp hS hSl
                have r1 : (R : Int) ≤ 64 := by have := c3H.out; omega
                have bI : (bb : Int) ≤ 8192 := by have := c4H.out; omega
                go_wp2_with fail
                refine Calls.mono (HSp.out w2 H2.out.2 c4H.out HSl.out) ?_
                rintro r w3 ⟨lv, rfl, hlv, b3⟩
                have H3 := Lib.hid (show rFR w3 w.heap.size (.slice none 0 0) mf ∧ Below w.heap.size w w3 ∧ rFR w3 w2.heap.size lv S from ⟨H2.out.1.below b3, H2.out.2.trans (b3.mono H2.out.2.size), hlv⟩)
                obtain ⟨sA, sC, e1, _⟩ := hlv.slice_
                obtain ⟨sN, hsN⟩ : ∃ sN, sN = S.length := ⟨_, rfl⟩
                rw [← hsN] at e1
                subst e1
                have HsN := Lib.hid hsN
                clear hlv b3 H2 HSp hsN
                go_wp2_with (at_builtin; refine rwp_appF rfl (.tmp 73) (.tmp 80) rfl rfl H3.out.1 sA sN sC S rfl HsN.out H3.out.2.2.rdf (by have := HX.out.2.2.2.2.2.2.2; have := HSl.out; omega) H3.out.2.1.size ?_; intro v4 w4 ho4 hb4 hg4 hj4; have H4 := Lib.hid (show rFR w4 w.heap.size v4 (mf ++ S) ∧ Below w.heap.size w w4 from ⟨ho4, H3.out.2.1.trans hb4⟩); obtain ⟨oA4, oN4, oC4, e4⟩ := rfr_slice ho4; subst e4; clear ho4 hb4 hg4 hj4 H3)
                refine Calls.mono (HFd.out w4 H4.out.2 c4H.out) ?_
                rintro r w5 ⟨pA, pc, rfl, hp5, b5⟩
                obtain ⟨M, hM⟩ : ∃ M, M = p.length := ⟨_, rfl⟩
                rw [← hM] at hp5 ⊢
                have HS0 : Hid (∃ fs', RIm w (.slice pA M pc) p w5 (.slice oA4 oN4 oC4) fs' ∧ fs' ++ rootF ws p (R - 0) 0 ⟨#[]⟩ = G) := Lib.hid ⟨mf ++ S, ⟨H4.out.1.below b5, H4.out.2.trans (b5.mono H4.out.2.size), ow_more hp5 H4.out.2.size, fun k hk e => by
                  have h1 := (H4.out.1.lt k hk).2
                  have h2 := (World.ownsRow.lt hp5 k e).1
                  omega⟩, by rw [HG.out.2.1, List.append_assoc]; rfl⟩
                have HM := Lib.hid hM
                clear hp5 b5 hM H4 HFd
                go_wp2_with fail
                go_loopw [3, 7, 8] (fun o s x W => ∃ (i : Nat) (ab : ByteArray), x = .int .i64 i ∧ s = .string ab ∧ i ≤ R ∧ Hid (∃ fs', RIm w (.slice pA M pc) p W o fs' ∧ fs' ++ rootF ws p (R - i) i ab = G)) (fun _ _ x _ => R - (Go.RowKit.intOf x).toNat)
                case atStart => exact ⟨0, ⟨#[]⟩, rfl, rfl, Nat.zero_le _, HS0⟩
                case round =>
                  obtain ⟨i, ab, rfl, rfl, hi, hS⟩ := hrel
                  clear HS0
                  obtain ⟨fs', T0, hG⟩ := hS.out
                  have p0 : (0 : Int) ≤ (i : Int) := by omega
                  by_cases hlt : i < R
                  · have p1 : (i : Int) < (R : Int) := by omega
                    obtain ⟨q, hq⟩ : ∃ q, q = 2 + 5 * i := ⟨_, rfl⟩
                    obtain ⟨q4, hq4⟩ : ∃ q4, q4 = q + 4 := ⟨_, rfl⟩
                    have hql : q4 < ws.length := by have h1 := c4H.out; have h2 := HX.out.2.2.2.1; have h3 := HX.out.2.2.1; omega
                    have qN : (q4 : Int) < (n : Int) := by have h3 := HX.out.2.2.1; omega
                    have qI : (q : Int) + 4 = (q4 : Int) := by omega
                    have qJ : (q4 : Int) ≤ 8192 := by omega
                    have qK : (0 : Int) ≤ (q : Int) := by omega
                    have qL : 2 + 5 * (i : Int) = (q : Int) := by omega
                    have qM : (0 : Int) ≤ (q4 : Int) := by omega
                    obtain ⟨j, hj⟩ : ∃ j, R - i = j + 1 := ⟨R - i - 1, by omega⟩
                    have hj2 : R - (i + 1) = j := by omega
                    obtain ⟨k, hk⟩ : ∃ k, k = bytesM ws (8 * q) 32 := ⟨_, rfl⟩
                    have hkA : nmAt ws i = k := by rw [hk, hq]; rfl
                    obtain ⟨nm, hnm⟩ : ∃ nm, nm = strB (cutN k) := ⟨_, rfl⟩
                    obtain ⟨okn, hokn⟩ : ∃ o, o = nmOk k := ⟨_, rfl⟩
                    obtain ⟨le, hle⟩ : ∃ le, le = lessS nm ab := ⟨_, rfl⟩
                    obtain ⟨ld, hld⟩ : ∃ ld, ld = leadB ws p q4 := ⟨_, rfl⟩
                    rw [hj] at hG
                    have hG2 : fs' ++ ((if okn = true ∧ le = false then [] else [(q, nameS)]) ++ (if ld = true then [] else [(q4, rootS)]) ++ rootF ws p j (i + 1) (if okn = true then nm else ab)) = G := by
                      rw [hle, hld, hokn, hnm, hq4, hq, ← hkA]
                      exact hG
                    have hfl : fs'.length ≤ 5000 := by
                      have h1 := HG.out.2.2.1
                      rw [← hG2, List.length_append] at h1
                      omega
                    have HE2 := Lib.hid (And.intro hG2 (And.intro hj2 hfl))
                    have hy2 : (Op.bytesLess nm.toList ab.toList || nm.toList == ab.toList) = le := hle.symm
                    have HNq := HNm.out wr T0.b q (by have h3 := HX.out.2.2.1; omega)
                    rw [← hk] at HNq
                    unfold NameR at HNq
                    rw [← hokn, ← hnm] at HNq
                    replace HNq := Lib.hid HNq
                    obtain ⟨ad2, had2, hadl2, hcw2⟩ := HRd.out q4 hql
                    injection had2 with had2
                    subst had2
                    obtain ⟨y, hy⟩ : ∃ y, y = ws[q4] := ⟨_, rfl⟩
                    rw [← hy] at hcw2
                    replace hcw2 : w.cell? (ad.add q4) = some (.int .u64 (U64 y)) := hcw2
                    have hye : ws.getD q4 0#64 = y := by rw [hy, List.getD_eq_getElem?_getD, List.getElem?_eq_getElem hql]; rfl
                    have hld2 : decide (y.toNat = 0 ∨ (1 ≤ y.toNat ∧ y.toNat - 1 ∈ p)) = ld := by rw [hld]; unfold leadB; rw [hye]
                    have HPt := Lib.hid (fun W (o : Value) (fs : List (Nat × ByteArray)) (h : RIm w (.slice pA M pc) p W o fs) => show Calls Try.prog 81 #[.slice pA M pc, .int .u64 (U64 y)] W (RetP (.bool ld) W) from by
                      have h1 := h.pp
                      rw [HM.out] at h1 ⊢
                      rw [← hld2]
                      exact points_c W pA pc p h1.rd (by have := HG.out.2.2.2.1; omega) HG.out.2.2.2.2 y)
                    obtain ⟨yv, hyv⟩ : ∃ yv, yv = U64 y := ⟨_, rfl⟩
                    rw [← hyv] at HPt hcw2
                    have HC := Lib.hid (fun W (hb : Below w.heap.size w W) => show (ad.add q4).block < W.heap.size ∧ W.cell? (ad.add q4) = some (.int .u64 yv) from ⟨by rw [add_block]; exact Nat.lt_of_lt_of_le hadl2 hb.size, (hb.cell (p := ad.add q4) (by rw [add_block]; exact hadl2)).trans hcw2⟩)
                    have H0 := Lib.hid T0
                    clear hS T0 hG hG2 hj hj2 hq hq4 hql hk hkA hnm hokn hle hld hy hye hld2 hfl hyv hcw2 hadl2
                    go_wp2_with fail
                    refine Calls.mono HNq.out ?_
                    rintro r w6 ⟨st, rfl, hst, b6⟩
                    have H6 := Lib.hid (H0.out.go b6)
                    obtain ⟨hcl, hcy⟩ := HC.out w6 H6.out.b
                    clear b6 H0 HNq
                    cases okn with
                    | false =>
                      clear hy2 hst
                      clear hcl hcy
                      go_wp2_with (at_builtin; refine rwp_appF rfl (.tmp 113) (.tmp 116) rfl rfl (H6.out.fr.below (Gw.alloc w6 _)) (some ⟨w6.heap.size, 0, none⟩) 1 1 [(q, nameS)] rfl rfl (rrdF_new w6 _ _) (by have := HE2.out.2.2; simp; omega) (Nat.le_trans H6.out.b.size (Gw.alloc w6 _).size) ?_; intro vw7 w7 ho hb hg hv; have H7 := Lib.hid (H6.out.app ho hb hg hv); clear ho hb hg hv; obtain ⟨hcl7, hcy7⟩ := HC.out w7 H7.out.b)
                      refine Calls.mono (HPt.out w7 _ _ H7.out) ?_
                      rintro r w8 ⟨rfl, b8⟩
                      have H8 := Lib.hid (H7.out.go b8)
                      clear b8
                      cases ld with
                      | false =>
                        clear hcl7 hcy7 H7
                        go_wp2_with (at_builtin; refine rwp_appF rfl (.tmp 128) (.tmp 132) rfl rfl (H8.out.fr.below (Gw.alloc w8 _)) (some ⟨w8.heap.size, 0, none⟩) 1 1 [(q4, rootS)] rfl rfl (rrdF_new w8 _ _) (by have := HE2.out.2.2; simp; omega) (Nat.le_trans H8.out.b.size (Gw.alloc w8 _).size) ?_; intro vw9 w9 ho hb hg hv; have H9 := Lib.hid (H8.out.app ho hb hg hv); clear ho hb hg hv)
                        have HN : Hid (∃ fs', RIm w (.slice pA M pc) p w9 vw9 fs' ∧ fs' ++ rootF ws p (R - (i + 1)) (i + 1) ab = G) := Lib.hid ⟨(fs' ++ [(q, nameS)]) ++ [(q4, rootS)], H9.out, by have h1 := HE2.out.1; rw [HE2.out.2.1]; simpa using h1⟩
                        go_roundw
                        case rel => first | exact ⟨i + 1, ab, by go_num, rfl, by omega, HN⟩ | ((repeat apply Exists.intro); refine ⟨?_, rfl⟩; exact ⟨i + 1, ab, by go_num, rfl, by omega, HN⟩)
                        case measure => simp [Go.RowKit.intOf]; omega
                      | true =>
                        have HN : Hid (∃ fs', RIm w (.slice pA M pc) p w8 vw7 fs' ∧ fs' ++ rootF ws p (R - (i + 1)) (i + 1) ab = G) := Lib.hid ⟨(fs' ++ [(q, nameS)]), H8.out, by have h1 := HE2.out.1; rw [HE2.out.2.1]; simpa using h1⟩
                        clear hcl7 hcy7 H7
                        go_wp2_with fail
                        go_roundw
                        case rel => first | exact ⟨i + 1, ab, by go_num, rfl, by omega, HN⟩ | ((repeat apply Exists.intro); refine ⟨?_, rfl⟩; exact ⟨i + 1, ab, by go_num, rfl, by omega, HN⟩)
                        case measure => simp [Go.RowKit.intOf]; omega
                    | true =>
                      have hs := hst rfl
                      subst hs
                      clear hst
                      cases le with
                      | true =>
                        clear hcl hcy
                        go_wp2_with (at_builtin; refine rwp_appF rfl (.tmp 113) (.tmp 116) rfl rfl (H6.out.fr.below (Gw.alloc w6 _)) (some ⟨w6.heap.size, 0, none⟩) 1 1 [(q, nameS)] rfl rfl (rrdF_new w6 _ _) (by have := HE2.out.2.2; simp; omega) (Nat.le_trans H6.out.b.size (Gw.alloc w6 _).size) ?_; intro vw7 w7 ho hb hg hv; have H7 := Lib.hid (H6.out.app ho hb hg hv); clear ho hb hg hv; obtain ⟨hcl7, hcy7⟩ := HC.out w7 H7.out.b)
                        refine Calls.mono (HPt.out w7 _ _ H7.out) ?_
                        rintro r w8 ⟨rfl, b8⟩
                        have H8 := Lib.hid (H7.out.go b8)
                        clear b8
                        cases ld with
                        | false =>
                          clear hcl7 hcy7 H7
                          go_wp2_with (at_builtin; refine rwp_appF rfl (.tmp 128) (.tmp 132) rfl rfl (H8.out.fr.below (Gw.alloc w8 _)) (some ⟨w8.heap.size, 0, none⟩) 1 1 [(q4, rootS)] rfl rfl (rrdF_new w8 _ _) (by have := HE2.out.2.2; simp; omega) (Nat.le_trans H8.out.b.size (Gw.alloc w8 _).size) ?_; intro vw9 w9 ho hb hg hv; have H9 := Lib.hid (H8.out.app ho hb hg hv); clear ho hb hg hv)
                          have HN : Hid (∃ fs', RIm w (.slice pA M pc) p w9 vw9 fs' ∧ fs' ++ rootF ws p (R - (i + 1)) (i + 1) st = G) := Lib.hid ⟨(fs' ++ [(q, nameS)]) ++ [(q4, rootS)], H9.out, by have h1 := HE2.out.1; rw [HE2.out.2.1]; simpa using h1⟩
                          go_roundw
                          case rel => first | exact ⟨i + 1, st, by go_num, rfl, by omega, HN⟩ | ((repeat apply Exists.intro); refine ⟨?_, rfl⟩; exact ⟨i + 1, st, by go_num, rfl, by omega, HN⟩)
                          case measure => simp [Go.RowKit.intOf]; omega
                        | true =>
                          have HN : Hid (∃ fs', RIm w (.slice pA M pc) p w8 vw7 fs' ∧ fs' ++ rootF ws p (R - (i + 1)) (i + 1) st = G) := Lib.hid ⟨(fs' ++ [(q, nameS)]), H8.out, by have h1 := HE2.out.1; rw [HE2.out.2.1]; simpa using h1⟩
                          clear hcl7 hcy7 H7
                          go_wp2_with fail
                          go_roundw
                          case rel => first | exact ⟨i + 1, st, by go_num, rfl, by omega, HN⟩ | ((repeat apply Exists.intro); refine ⟨?_, rfl⟩; exact ⟨i + 1, st, by go_num, rfl, by omega, HN⟩)
                          case measure => simp [Go.RowKit.intOf]; omega
                      | false =>
                        go_wp2_with fail
                        refine Calls.mono (HPt.out w6 _ _ H6.out) ?_
                        rintro r w8 ⟨rfl, b8⟩
                        have H8 := Lib.hid (H6.out.go b8)
                        clear b8
                        cases ld with
                        | false =>
                          clear hcl hcy H6
                          go_wp2_with (at_builtin; refine rwp_appF rfl (.tmp 128) (.tmp 132) rfl rfl (H8.out.fr.below (Gw.alloc w8 _)) (some ⟨w8.heap.size, 0, none⟩) 1 1 [(q4, rootS)] rfl rfl (rrdF_new w8 _ _) (by have := HE2.out.2.2; simp; omega) (Nat.le_trans H8.out.b.size (Gw.alloc w8 _).size) ?_; intro vw9 w9 ho hb hg hv; have H9 := Lib.hid (H8.out.app ho hb hg hv); clear ho hb hg hv)
                          have HN : Hid (∃ fs', RIm w (.slice pA M pc) p w9 vw9 fs' ∧ fs' ++ rootF ws p (R - (i + 1)) (i + 1) st = G) := Lib.hid ⟨fs' ++ [(q4, rootS)], H9.out, by have h1 := HE2.out.1; rw [HE2.out.2.1]; simpa using h1⟩
                          go_roundw
                          case rel => first | exact ⟨i + 1, st, by go_num, rfl, by omega, HN⟩ | ((repeat apply Exists.intro); refine ⟨?_, rfl⟩; exact ⟨i + 1, st, by go_num, rfl, by omega, HN⟩)
                          case measure => simp [Go.RowKit.intOf]; omega
                        | true =>
                          have HN : Hid (∃ fs', RIm w (.slice pA M pc) p w8 u3 fs' ∧ fs' ++ rootF ws p (R - (i + 1)) (i + 1) st = G) := Lib.hid ⟨fs', H8.out, by have h1 := HE2.out.1; rw [HE2.out.2.1]; simpa using h1⟩
                          clear hcl hcy H6
                          go_wp2_with fail
                          go_roundw
                          case rel => first | exact ⟨i + 1, st, by go_num, rfl, by omega, HN⟩ | ((repeat apply Exists.intro); refine ⟨?_, rfl⟩; exact ⟨i + 1, st, by go_num, rfl, by omega, HN⟩)
                          case measure => simp [Go.RowKit.intOf]; omega
                  · have p1 : ¬ (i : Int) < (R : Int) := by omega
                    have hf : fs' = G := by rw [← hG, show R - i = 0 by omega]; exact (List.append_nil _).symm
                    have HE2 := Lib.hid (And.intro T0 hf)
                    clear T0 hG hS hf
                    go_wp2_with fail
                    rw [HE.out]
                    exact ⟨u3, rfl, by rw [← HG.out.1, ← HE2.out.2]; exact HE2.out.1.fr, HE2.out.1.b⟩
              · have HN := Lib.hid (show ok = false from by rw [HX.out.1]; exact decide_eq_false (fun h => c4 h.2.2.2.2))
                have k4 : (n : Int) < 2 + 5 * (R : Int) := by omega
                subst c2
                clear hsh hsh0 ha16 c1 c3 c4 hbb
                go_wp2_with (at_builtin; refine rwp_appF rfl (.tmp 69) (.tmp 71) rfl rfl (H2.out.1.below (Gw.alloc w2 _)) (some ⟨w2.heap.size, 0, none⟩) 1 1 [(1, sizeS)] rfl rfl (rrdF_new w2 1 sizeS) (by have := HX.out.2.2.2.2.2.2.2; simp; omega) (Nat.le_trans H2.out.2.size (Gw.alloc w2 _).size) ?_; intro v3 w3 ho3 hb3 hg3 hj3; have H3 := Lib.hid (And.intro ho3 ((H2.out.2.trans ((Gw.alloc w2 _).mono H2.out.2.size)).trans hb3)); clear ho3 hb3 hg3 hj3)
                rw [HE.out]
                exact ⟨v3, rfl, by rw [HX.out.2.2.2.2.2.1, if_neg (by rw [HN.out]; decide)]; exact H3.out.1, H3.out.2⟩
            · have HN := Lib.hid (show ok = false from by rw [HX.out.1]; exact decide_eq_false (fun h => c3 h.2.2.2.1))
              have k3 : (64 : Int) < (R : Int) := by omega
              subst c2
              clear hsh hsh0 ha16 c1 c3 hbb
              go_wp2_with (at_builtin; refine rwp_appF rfl (.tmp 69) (.tmp 71) rfl rfl (H2.out.1.below (Gw.alloc w2 _)) (some ⟨w2.heap.size, 0, none⟩) 1 1 [(1, sizeS)] rfl rfl (rrdF_new w2 1 sizeS) (by have := HX.out.2.2.2.2.2.2.2; simp; omega) (Nat.le_trans H2.out.2.size (Gw.alloc w2 _).size) ?_; intro v3 w3 ho3 hb3 hg3 hj3; have H3 := Lib.hid (And.intro ho3 ((H2.out.2.trans ((Gw.alloc w2 _).mono H2.out.2.size)).trans hb3)); clear ho3 hb3 hg3 hj3)
              rw [HE.out]
              exact ⟨v3, rfl, by rw [HX.out.2.2.2.2.2.1, if_neg (by rw [HN.out]; decide)]; exact H3.out.1, H3.out.2⟩
          · have HN := Lib.hid (show ok = false from by rw [HX.out.1]; exact decide_eq_false (fun h => c2 (ha16.trans h.2.2.1)))
            have k3 : (a16 != (n : Int)) = true := by rw [bne_iff_ne]; exact c2
            clear hsh hsh0 ha16 c1 c2 hbb
            go_wp2_with (at_builtin; refine rwp_appF rfl (.tmp 69) (.tmp 71) rfl rfl (H2.out.1.below (Gw.alloc w2 _)) (some ⟨w2.heap.size, 0, none⟩) 1 1 [(1, sizeS)] rfl rfl (rrdF_new w2 1 sizeS) (by have := HX.out.2.2.2.2.2.2.2; simp; omega) (Nat.le_trans H2.out.2.size (Gw.alloc w2 _).size) ?_; intro v3 w3 ho3 hb3 hg3 hj3; have H3 := Lib.hid (And.intro ho3 ((H2.out.2.trans ((Gw.alloc w2 _).mono H2.out.2.size)).trans hb3)); clear ho3 hb3 hg3 hj3)
            rw [HE.out]
            exact ⟨v3, rfl, by rw [HX.out.2.2.2.2.2.1, if_neg (by rw [HN.out]; decide)]; exact H3.out.1, H3.out.2⟩
        · have HN := Lib.hid (show ok = false from by rw [HX.out.1]; exact decide_eq_false (fun h => c1 (hsh.trans h.2.1)))
          have k3 : (U64 x1 / 281474976710656 != 0) = true := by rw [bne_iff_ne, ← hsh]; exact c1
          clear hsh c1 hbb
          go_wp2_with (at_builtin; refine rwp_appF rfl (.tmp 69) (.tmp 71) rfl rfl (H1.out.1.below (Gw.alloc w1 _)) (some ⟨w1.heap.size, 0, none⟩) 1 1 [(1, sizeS)] rfl rfl (rrdF_new w1 1 sizeS) (by have := HX.out.2.2.2.2.2.2.2; simp; omega) (Nat.le_trans H1.out.2.size (Gw.alloc w1 _).size) ?_; intro v3 w3 ho3 hb3 hg3 hj3; have H3 := Lib.hid (And.intro ho3 ((H1.out.2.trans ((Gw.alloc w1 _).mono H1.out.2.size)).trans hb3)); clear ho3 hb3 hg3 hj3)
          rw [HE.out]
          exact ⟨v3, rfl, by rw [HX.out.2.2.2.2.2.1, if_neg (by rw [HN.out]; decide)]; exact H3.out.1, H3.out.2⟩
    · have hme : mf = [(0, magicS)] := by rw [hmf]; unfold magF; rw [if_pos (.inr (by rw [← hx0]; exact hmg))]
      have HMe := Lib.hid hme
      have g0' : (U64 x0 != 1296125772) = true := by
        rw [bne_iff_ne]
        intro h
        exact hmg (U64_inj (show U64 x0 = U64 1296125772#64 from h))
      obtain ⟨xv, hxv⟩ : ∃ xv, xv = U64 x0 := ⟨_, rfl⟩
      rw [← hxv] at g0 g0'
      have HL := Lib.hid hadl
      clear hE hr h8 hl hok hR hn hmf hml himg hx0 hx1 e0 h0 hR6 hme hmg hxv hadl hoks h016 hG1
      by_cases h2 : n < 2
      · have HN := Lib.hid (show ok = false from by rw [HX.out.1]; exact decide_eq_false (fun h => by omega))
        have k2 : (n : Int) < 2 := by omega
        clear hbb h2
        go_enter Try.func43, Try.ntmps43
        go_wp2_with (first | (at_builtin; refine rwp_appF rfl (.tmp 21) (.tmp 23) rfl rfl (rFR.nil _ w.heap.size) (some ⟨w.heap.size, 0, none⟩) 1 1 [(0, magicS)] rfl rfl (rrdF_new w 0 magicS) (by decide) (Gw.alloc w _).size ?_; intro v1 w0 ho1 hb1 hg1 hj1; have H0 := Lib.hid (show rFR w0 w.heap.size v1 mf ∧ Below w.heap.size w w0 from ⟨by rw [HMe.out]; exact ho1, (Gw.alloc w _).trans hb1⟩); obtain ⟨oA, oN, oC, e1⟩ := rfr_slice ho1; subst e1; clear ho1 hb1 hg1 hj1) | (at_builtin; refine rwp_appF rfl (.tmp 28) (.tmp 30) rfl rfl (H0.out.1.below (Gw.alloc w0 _)) (some ⟨w0.heap.size, 0, none⟩) 1 1 [(1, sizeS)] rfl rfl (rrdF_new w0 1 sizeS) (by have := HX.out.2.2.2.2.2.2.2; simp; omega) (Nat.le_trans H0.out.2.size (Gw.alloc w0 _).size) ?_; intro v3 w3 ho3 hb3 hg3 hj3; have H3 := Lib.hid (And.intro ho3 ((H0.out.2.trans ((Gw.alloc w0 _).mono H0.out.2.size)).trans hb3)); clear ho3 hb3 hg3 hj3))
        rw [HE.out]
        exact ⟨v3, rfl, by rw [HX.out.2.2.2.2.2.1, if_neg (by rw [HN.out]; decide)]; exact H3.out.1, H3.out.2⟩
      · replace h2 : 2 ≤ n := by omega
        have k2 : ¬ (n : Int) < 2 := by omega
        have k4 : (1 : Int) < (n : Int) := by omega
        go_enter Try.func43, Try.ntmps43
        go_wp2_with (at_builtin; refine rwp_appF rfl (.tmp 21) (.tmp 23) rfl rfl (rFR.nil _ w.heap.size) (some ⟨w.heap.size, 0, none⟩) 1 1 [(0, magicS)] rfl rfl (rrdF_new w 0 magicS) (by decide) (Gw.alloc w _).size ?_; intro v1 w0 ho1 hb1 hg1 hj1; have H0 := Lib.hid (show rFR w0 w.heap.size v1 mf ∧ Below w.heap.size w w0 from ⟨by rw [HMe.out]; exact ho1, (Gw.alloc w _).trans hb1⟩); obtain ⟨oA, oN, oC, e1⟩ := rfr_slice ho1; subst e1; clear ho1 hb1 hg1 hj1; have hq := Nat.lt_of_lt_of_le HL.out H0.out.2.size; have g1 : w0.cell? ⟨ad.block, ad.off + 1, none⟩ = some (.int .u64 (U64 x1)) := (H0.out.2.cell (p := ⟨ad.block, ad.off + 1, none⟩) HL.out).trans (HG1.out h2); clear h2)
        refine Calls.mono (of_ansk (rfield_c x1 0 16 (by decide) (by decide) w0)) ?_
        rintro r w1 ⟨u, rfl, b1, hu⟩
        unfold IsV at hu
        subst hu
        rw [HF0.out]
        have H1 := Lib.hid (show rFR w1 w.heap.size (.slice oA oN oC) mf ∧ Below w.heap.size w w1 from ⟨H0.out.1.below b1, H0.out.2.trans (b1.mono H0.out.2.size)⟩)
        replace g1 := (b1.cell (p := ⟨ad.block, ad.off + 1, none⟩) hq).trans g1
        replace hq := Nat.lt_of_lt_of_le hq b1.size
        clear b1 H0
        obtain ⟨sh, hsh⟩ : ∃ s, s = U64 x1 / 281474976710656 := ⟨_, rfl⟩
        by_cases c1 : sh = 0
        · have hsh0 : U64 x1 / 281474976710656 = 0 := by rw [← hsh]; exact c1
          go_wp2_with fail
          refine Calls.mono (of_ansk (rfield_c x1 16 32 (by decide) (by decide) w1)) ?_
          rintro r w2 ⟨u, rfl, b2, hu⟩
          unfold IsV at hu
          subst hu
          have H2 := Lib.hid (show rFR w2 w.heap.size (.slice oA oN oC) mf ∧ Below w.heap.size w w2 from ⟨H1.out.1.below b2, H1.out.2.trans (b2.mono H1.out.2.size)⟩)
          replace hq := Nat.lt_of_lt_of_le hq b2.size
          clear b2 H1 g1
          obtain ⟨a16, ha16⟩ : ∃ a, a = U64 (fieldB x1 16 32) := ⟨_, rfl⟩
          rw [← ha16]
          by_cases c2 : a16 = (n : Int)
          · by_cases c3 : R ≤ 64
            · have k3 : ¬ (64 : Int) < (R : Int) := by omega
              by_cases c4 : bb ≤ n
              · have HOk := Lib.hid (show ok = true from by rw [HX.out.1]; exact decide_eq_true ⟨by omega, hsh0, by rw [← ha16]; exact c2, c3, c4⟩)
                have k4 : ¬ (n : Int) < 2 + 5 * (R : Int) := by omega
                have kbb : 2 + 5 * (R : Int) = (bb : Int) := by omega
                subst c2
                have c3H := Lib.hid c3
                have c4H := Lib.hid c4
                clear hsh hsh0 ha16 c1 c3 c4 hbb
                have himg : imgF ws = mf ++ insF ws R := by rw [HX.out.2.2.2.2.2.1, if_pos HOk.out]
                obtain ⟨F, hF⟩ : ∃ F, F = foundN ws n (n + 1) bb := ⟨_, rfl⟩
                obtain ⟨G, hG⟩ : ∃ G, G = imgF ws := ⟨_, rfl⟩
                have hins : G = mf ++ ((badF F.2 ++ allE ws F.1 F.1) ++ rootF ws F.1 R 0 ⟨#[]⟩) := by rw [hG, himg, hF, HX.out.2.2.2.1, HX.out.2.2.1]; rfl
                have hGl : G.length ≤ 5000 := by rw [hG]; exact HX.out.2.2.2.2.2.2.1
                have hpl : F.1.length ≤ 8192 := by
                  have h2 := found_len ws n (n + 1) bb
                  rw [← hF] at h2
                  have := HX.out.2.2.2.2.1
                  have := HX.out.2.2.1
                  omega
                have hpg : ∀ a ∈ F.1, a < 1073741824 := fun a ha => by
                  obtain ⟨_, h2, _⟩ := found_good ws n (n + 1) bb a (by rw [← hF]; exact ha)
                  omega
                rw [← hF] at HSp HFd
                obtain ⟨p, hp⟩ : ∃ p, p = F.1 := ⟨_, rfl⟩
                obtain ⟨S, hS⟩ : ∃ S, S = badF F.2 ++ allE ws F.1 F.1 := ⟨_, rfl⟩
                rw [← hS, ← hp] at hins
                rw [← hp] at hpl hpg HFd
                rw [← hp] at hS
                rw [← hp, ← hS] at HSp
                have HG := Lib.hid (And.intro hG (And.intro hins (And.intro hGl (And.intro hpl hpg))))
                have hSl : S.length ≤ 5000 := by have h := hGl; rw [hins, List.length_append, List.length_append] at h; omega
                have HSl := Lib.hid hSl
                clear himg hG hins hGl hpl hpg hF hp hS hSl
                have r1 : (R : Int) ≤ 64 := by have := c3H.out; omega
                have bI : (bb : Int) ≤ 8192 := by have := c4H.out; omega
                go_wp2_with fail
                refine Calls.mono (HSp.out w2 H2.out.2 c4H.out HSl.out) ?_
                rintro r w3 ⟨lv, rfl, hlv, b3⟩
                have H3 := Lib.hid (show rFR w3 w.heap.size (.slice oA oN oC) mf ∧ Below w.heap.size w w3 ∧ rFR w3 w2.heap.size lv S from ⟨H2.out.1.below b3, H2.out.2.trans (b3.mono H2.out.2.size), hlv⟩)
                obtain ⟨sA, sC, e1, _⟩ := hlv.slice_
                obtain ⟨sN, hsN⟩ : ∃ sN, sN = S.length := ⟨_, rfl⟩
                rw [← hsN] at e1
                subst e1
                have HsN := Lib.hid hsN
                clear hlv b3 H2 HSp hsN
                go_wp2_with (at_builtin; refine rwp_appF rfl (.tmp 73) (.tmp 80) rfl rfl H3.out.1 sA sN sC S rfl HsN.out H3.out.2.2.rdf (by have := HX.out.2.2.2.2.2.2.2; have := HSl.out; omega) H3.out.2.1.size ?_; intro v4 w4 ho4 hb4 hg4 hj4; have H4 := Lib.hid (show rFR w4 w.heap.size v4 (mf ++ S) ∧ Below w.heap.size w w4 from ⟨ho4, H3.out.2.1.trans hb4⟩); obtain ⟨oA4, oN4, oC4, e4⟩ := rfr_slice ho4; subst e4; clear ho4 hb4 hg4 hj4 H3)
                refine Calls.mono (HFd.out w4 H4.out.2 c4H.out) ?_
                rintro r w5 ⟨pA, pc, rfl, hp5, b5⟩
                obtain ⟨M, hM⟩ : ∃ M, M = p.length := ⟨_, rfl⟩
                rw [← hM] at hp5 ⊢
                have HS0 : Hid (∃ fs', RIm w (.slice pA M pc) p w5 (.slice oA4 oN4 oC4) fs' ∧ fs' ++ rootF ws p (R - 0) 0 ⟨#[]⟩ = G) := Lib.hid ⟨mf ++ S, ⟨H4.out.1.below b5, H4.out.2.trans (b5.mono H4.out.2.size), ow_more hp5 H4.out.2.size, fun k hk e => by
                  have h1 := (H4.out.1.lt k hk).2
                  have h2 := (World.ownsRow.lt hp5 k e).1
                  omega⟩, by rw [HG.out.2.1, List.append_assoc]; rfl⟩
                have HM := Lib.hid hM
                clear hp5 b5 hM H4 HFd
                go_wp2_with fail
                go_loopw [3, 7, 8] (fun o s x W => ∃ (i : Nat) (ab : ByteArray), x = .int .i64 i ∧ s = .string ab ∧ i ≤ R ∧ Hid (∃ fs', RIm w (.slice pA M pc) p W o fs' ∧ fs' ++ rootF ws p (R - i) i ab = G)) (fun _ _ x _ => R - (Go.RowKit.intOf x).toNat)
                case atStart => exact ⟨0, ⟨#[]⟩, rfl, rfl, Nat.zero_le _, HS0⟩
                case round =>
                  obtain ⟨i, ab, rfl, rfl, hi, hS⟩ := hrel
                  clear HS0
                  obtain ⟨fs', T0, hG⟩ := hS.out
                  have p0 : (0 : Int) ≤ (i : Int) := by omega
                  by_cases hlt : i < R
                  · have p1 : (i : Int) < (R : Int) := by omega
                    obtain ⟨q, hq⟩ : ∃ q, q = 2 + 5 * i := ⟨_, rfl⟩
                    obtain ⟨q4, hq4⟩ : ∃ q4, q4 = q + 4 := ⟨_, rfl⟩
                    have hql : q4 < ws.length := by have h1 := c4H.out; have h2 := HX.out.2.2.2.1; have h3 := HX.out.2.2.1; omega
                    have qN : (q4 : Int) < (n : Int) := by have h3 := HX.out.2.2.1; omega
                    have qI : (q : Int) + 4 = (q4 : Int) := by omega
                    have qJ : (q4 : Int) ≤ 8192 := by omega
                    have qK : (0 : Int) ≤ (q : Int) := by omega
                    have qL : 2 + 5 * (i : Int) = (q : Int) := by omega
                    have qM : (0 : Int) ≤ (q4 : Int) := by omega
                    obtain ⟨j, hj⟩ : ∃ j, R - i = j + 1 := ⟨R - i - 1, by omega⟩
                    have hj2 : R - (i + 1) = j := by omega
                    obtain ⟨k, hk⟩ : ∃ k, k = bytesM ws (8 * q) 32 := ⟨_, rfl⟩
                    have hkA : nmAt ws i = k := by rw [hk, hq]; rfl
                    obtain ⟨nm, hnm⟩ : ∃ nm, nm = strB (cutN k) := ⟨_, rfl⟩
                    obtain ⟨okn, hokn⟩ : ∃ o, o = nmOk k := ⟨_, rfl⟩
                    obtain ⟨le, hle⟩ : ∃ le, le = lessS nm ab := ⟨_, rfl⟩
                    obtain ⟨ld, hld⟩ : ∃ ld, ld = leadB ws p q4 := ⟨_, rfl⟩
                    rw [hj] at hG
                    have hG2 : fs' ++ ((if okn = true ∧ le = false then [] else [(q, nameS)]) ++ (if ld = true then [] else [(q4, rootS)]) ++ rootF ws p j (i + 1) (if okn = true then nm else ab)) = G := by
                      rw [hle, hld, hokn, hnm, hq4, hq, ← hkA]
                      exact hG
                    have hfl : fs'.length ≤ 5000 := by
                      have h1 := HG.out.2.2.1
                      rw [← hG2, List.length_append] at h1
                      omega
                    have HE2 := Lib.hid (And.intro hG2 (And.intro hj2 hfl))
                    have hy2 : (Op.bytesLess nm.toList ab.toList || nm.toList == ab.toList) = le := hle.symm
                    have HNq := HNm.out wr T0.b q (by have h3 := HX.out.2.2.1; omega)
                    rw [← hk] at HNq
                    unfold NameR at HNq
                    rw [← hokn, ← hnm] at HNq
                    replace HNq := Lib.hid HNq
                    obtain ⟨ad2, had2, hadl2, hcw2⟩ := HRd.out q4 hql
                    injection had2 with had2
                    subst had2
                    obtain ⟨y, hy⟩ : ∃ y, y = ws[q4] := ⟨_, rfl⟩
                    rw [← hy] at hcw2
                    replace hcw2 : w.cell? (ad.add q4) = some (.int .u64 (U64 y)) := hcw2
                    have hye : ws.getD q4 0#64 = y := by rw [hy, List.getD_eq_getElem?_getD, List.getElem?_eq_getElem hql]; rfl
                    have hld2 : decide (y.toNat = 0 ∨ (1 ≤ y.toNat ∧ y.toNat - 1 ∈ p)) = ld := by rw [hld]; unfold leadB; rw [hye]
                    have HPt := Lib.hid (fun W (o : Value) (fs : List (Nat × ByteArray)) (h : RIm w (.slice pA M pc) p W o fs) => show Calls Try.prog 81 #[.slice pA M pc, .int .u64 (U64 y)] W (RetP (.bool ld) W) from by
                      have h1 := h.pp
                      rw [HM.out] at h1 ⊢
                      rw [← hld2]
                      exact points_c W pA pc p h1.rd (by have := HG.out.2.2.2.1; omega) HG.out.2.2.2.2 y)
                    obtain ⟨yv, hyv⟩ : ∃ yv, yv = U64 y := ⟨_, rfl⟩
                    rw [← hyv] at HPt hcw2
                    have HC := Lib.hid (fun W (hb : Below w.heap.size w W) => show (ad.add q4).block < W.heap.size ∧ W.cell? (ad.add q4) = some (.int .u64 yv) from ⟨by rw [add_block]; exact Nat.lt_of_lt_of_le hadl2 hb.size, (hb.cell (p := ad.add q4) (by rw [add_block]; exact hadl2)).trans hcw2⟩)
                    have H0 := Lib.hid T0
                    clear hS T0 hG hG2 hj hj2 hq hq4 hql hk hkA hnm hokn hle hld hy hye hld2 hfl hyv hcw2 hadl2
                    go_wp2_with fail
                    refine Calls.mono HNq.out ?_
                    rintro r w6 ⟨st, rfl, hst, b6⟩
                    have H6 := Lib.hid (H0.out.go b6)
                    obtain ⟨hcl, hcy⟩ := HC.out w6 H6.out.b
                    clear b6 H0 HNq
                    cases okn with
                    | false =>
                      clear hy2 hst
                      clear hcl hcy
                      go_wp2_with (at_builtin; refine rwp_appF rfl (.tmp 113) (.tmp 116) rfl rfl (H6.out.fr.below (Gw.alloc w6 _)) (some ⟨w6.heap.size, 0, none⟩) 1 1 [(q, nameS)] rfl rfl (rrdF_new w6 _ _) (by have := HE2.out.2.2; simp; omega) (Nat.le_trans H6.out.b.size (Gw.alloc w6 _).size) ?_; intro vw7 w7 ho hb hg hv; have H7 := Lib.hid (H6.out.app ho hb hg hv); clear ho hb hg hv; obtain ⟨hcl7, hcy7⟩ := HC.out w7 H7.out.b)
                      refine Calls.mono (HPt.out w7 _ _ H7.out) ?_
                      rintro r w8 ⟨rfl, b8⟩
                      have H8 := Lib.hid (H7.out.go b8)
                      clear b8
                      cases ld with
                      | false =>
                        clear hcl7 hcy7 H7
                        go_wp2_with (at_builtin; refine rwp_appF rfl (.tmp 128) (.tmp 132) rfl rfl (H8.out.fr.below (Gw.alloc w8 _)) (some ⟨w8.heap.size, 0, none⟩) 1 1 [(q4, rootS)] rfl rfl (rrdF_new w8 _ _) (by have := HE2.out.2.2; simp; omega) (Nat.le_trans H8.out.b.size (Gw.alloc w8 _).size) ?_; intro vw9 w9 ho hb hg hv; have H9 := Lib.hid (H8.out.app ho hb hg hv); clear ho hb hg hv)
                        have HN : Hid (∃ fs', RIm w (.slice pA M pc) p w9 vw9 fs' ∧ fs' ++ rootF ws p (R - (i + 1)) (i + 1) ab = G) := Lib.hid ⟨(fs' ++ [(q, nameS)]) ++ [(q4, rootS)], H9.out, by have h1 := HE2.out.1; rw [HE2.out.2.1]; simpa using h1⟩
                        go_roundw
                        case rel => first | exact ⟨i + 1, ab, by go_num, rfl, by omega, HN⟩ | ((repeat apply Exists.intro); refine ⟨?_, rfl⟩; exact ⟨i + 1, ab, by go_num, rfl, by omega, HN⟩)
                        case measure => simp [Go.RowKit.intOf]; omega
                      | true =>
                        have HN : Hid (∃ fs', RIm w (.slice pA M pc) p w8 vw7 fs' ∧ fs' ++ rootF ws p (R - (i + 1)) (i + 1) ab = G) := Lib.hid ⟨(fs' ++ [(q, nameS)]), H8.out, by have h1 := HE2.out.1; rw [HE2.out.2.1]; simpa using h1⟩
                        clear hcl7 hcy7 H7
                        go_wp2_with fail
                        go_roundw
                        case rel => first | exact ⟨i + 1, ab, by go_num, rfl, by omega, HN⟩ | ((repeat apply Exists.intro); refine ⟨?_, rfl⟩; exact ⟨i + 1, ab, by go_num, rfl, by omega, HN⟩)
                        case measure => simp [Go.RowKit.intOf]; omega
                    | true =>
                      have hs := hst rfl
                      subst hs
                      clear hst
                      cases le with
                      | true =>
                        clear hcl hcy
                        go_wp2_with (at_builtin; refine rwp_appF rfl (.tmp 113) (.tmp 116) rfl rfl (H6.out.fr.below (Gw.alloc w6 _)) (some ⟨w6.heap.size, 0, none⟩) 1 1 [(q, nameS)] rfl rfl (rrdF_new w6 _ _) (by have := HE2.out.2.2; simp; omega) (Nat.le_trans H6.out.b.size (Gw.alloc w6 _).size) ?_; intro vw7 w7 ho hb hg hv; have H7 := Lib.hid (H6.out.app ho hb hg hv); clear ho hb hg hv; obtain ⟨hcl7, hcy7⟩ := HC.out w7 H7.out.b)
                        refine Calls.mono (HPt.out w7 _ _ H7.out) ?_
                        rintro r w8 ⟨rfl, b8⟩
                        have H8 := Lib.hid (H7.out.go b8)
                        clear b8
                        cases ld with
                        | false =>
                          clear hcl7 hcy7 H7
                          go_wp2_with (at_builtin; refine rwp_appF rfl (.tmp 128) (.tmp 132) rfl rfl (H8.out.fr.below (Gw.alloc w8 _)) (some ⟨w8.heap.size, 0, none⟩) 1 1 [(q4, rootS)] rfl rfl (rrdF_new w8 _ _) (by have := HE2.out.2.2; simp; omega) (Nat.le_trans H8.out.b.size (Gw.alloc w8 _).size) ?_; intro vw9 w9 ho hb hg hv; have H9 := Lib.hid (H8.out.app ho hb hg hv); clear ho hb hg hv)
                          have HN : Hid (∃ fs', RIm w (.slice pA M pc) p w9 vw9 fs' ∧ fs' ++ rootF ws p (R - (i + 1)) (i + 1) st = G) := Lib.hid ⟨(fs' ++ [(q, nameS)]) ++ [(q4, rootS)], H9.out, by have h1 := HE2.out.1; rw [HE2.out.2.1]; simpa using h1⟩
                          go_roundw
                          case rel => first | exact ⟨i + 1, st, by go_num, rfl, by omega, HN⟩ | ((repeat apply Exists.intro); refine ⟨?_, rfl⟩; exact ⟨i + 1, st, by go_num, rfl, by omega, HN⟩)
                          case measure => simp [Go.RowKit.intOf]; omega
                        | true =>
                          have HN : Hid (∃ fs', RIm w (.slice pA M pc) p w8 vw7 fs' ∧ fs' ++ rootF ws p (R - (i + 1)) (i + 1) st = G) := Lib.hid ⟨(fs' ++ [(q, nameS)]), H8.out, by have h1 := HE2.out.1; rw [HE2.out.2.1]; simpa using h1⟩
                          clear hcl7 hcy7 H7
                          go_wp2_with fail
                          go_roundw
                          case rel => first | exact ⟨i + 1, st, by go_num, rfl, by omega, HN⟩ | ((repeat apply Exists.intro); refine ⟨?_, rfl⟩; exact ⟨i + 1, st, by go_num, rfl, by omega, HN⟩)
                          case measure => simp [Go.RowKit.intOf]; omega
                      | false =>
                        go_wp2_with fail
                        refine Calls.mono (HPt.out w6 _ _ H6.out) ?_
                        rintro r w8 ⟨rfl, b8⟩
                        have H8 := Lib.hid (H6.out.go b8)
                        clear b8
                        cases ld with
                        | false =>
                          clear hcl hcy H6
                          go_wp2_with (at_builtin; refine rwp_appF rfl (.tmp 128) (.tmp 132) rfl rfl (H8.out.fr.below (Gw.alloc w8 _)) (some ⟨w8.heap.size, 0, none⟩) 1 1 [(q4, rootS)] rfl rfl (rrdF_new w8 _ _) (by have := HE2.out.2.2; simp; omega) (Nat.le_trans H8.out.b.size (Gw.alloc w8 _).size) ?_; intro vw9 w9 ho hb hg hv; have H9 := Lib.hid (H8.out.app ho hb hg hv); clear ho hb hg hv)
                          have HN : Hid (∃ fs', RIm w (.slice pA M pc) p w9 vw9 fs' ∧ fs' ++ rootF ws p (R - (i + 1)) (i + 1) st = G) := Lib.hid ⟨fs' ++ [(q4, rootS)], H9.out, by have h1 := HE2.out.1; rw [HE2.out.2.1]; simpa using h1⟩
                          go_roundw
                          case rel => first | exact ⟨i + 1, st, by go_num, rfl, by omega, HN⟩ | ((repeat apply Exists.intro); refine ⟨?_, rfl⟩; exact ⟨i + 1, st, by go_num, rfl, by omega, HN⟩)
                          case measure => simp [Go.RowKit.intOf]; omega
                        | true =>
                          have HN : Hid (∃ fs', RIm w (.slice pA M pc) p w8 u3 fs' ∧ fs' ++ rootF ws p (R - (i + 1)) (i + 1) st = G) := Lib.hid ⟨fs', H8.out, by have h1 := HE2.out.1; rw [HE2.out.2.1]; simpa using h1⟩
                          clear hcl hcy H6
                          go_wp2_with fail
                          go_roundw
                          case rel => first | exact ⟨i + 1, st, by go_num, rfl, by omega, HN⟩ | ((repeat apply Exists.intro); refine ⟨?_, rfl⟩; exact ⟨i + 1, st, by go_num, rfl, by omega, HN⟩)
                          case measure => simp [Go.RowKit.intOf]; omega
                  · have p1 : ¬ (i : Int) < (R : Int) := by omega
                    have hf : fs' = G := by rw [← hG, show R - i = 0 by omega]; exact (List.append_nil _).symm
                    have HE2 := Lib.hid (And.intro T0 hf)
                    clear T0 hG hS hf
                    go_wp2_with fail
                    rw [HE.out]
                    exact ⟨u3, rfl, by rw [← HG.out.1, ← HE2.out.2]; exact HE2.out.1.fr, HE2.out.1.b⟩
              · have HN := Lib.hid (show ok = false from by rw [HX.out.1]; exact decide_eq_false (fun h => c4 h.2.2.2.2))
                have k4 : (n : Int) < 2 + 5 * (R : Int) := by omega
                subst c2
                clear hsh hsh0 ha16 c1 c3 c4 hbb
                go_wp2_with (at_builtin; refine rwp_appF rfl (.tmp 69) (.tmp 71) rfl rfl (H2.out.1.below (Gw.alloc w2 _)) (some ⟨w2.heap.size, 0, none⟩) 1 1 [(1, sizeS)] rfl rfl (rrdF_new w2 1 sizeS) (by have := HX.out.2.2.2.2.2.2.2; simp; omega) (Nat.le_trans H2.out.2.size (Gw.alloc w2 _).size) ?_; intro v3 w3 ho3 hb3 hg3 hj3; have H3 := Lib.hid (And.intro ho3 ((H2.out.2.trans ((Gw.alloc w2 _).mono H2.out.2.size)).trans hb3)); clear ho3 hb3 hg3 hj3)
                rw [HE.out]
                exact ⟨v3, rfl, by rw [HX.out.2.2.2.2.2.1, if_neg (by rw [HN.out]; decide)]; exact H3.out.1, H3.out.2⟩
            · have HN := Lib.hid (show ok = false from by rw [HX.out.1]; exact decide_eq_false (fun h => c3 h.2.2.2.1))
              have k3 : (64 : Int) < (R : Int) := by omega
              subst c2
              clear hsh hsh0 ha16 c1 c3 hbb
              go_wp2_with (at_builtin; refine rwp_appF rfl (.tmp 69) (.tmp 71) rfl rfl (H2.out.1.below (Gw.alloc w2 _)) (some ⟨w2.heap.size, 0, none⟩) 1 1 [(1, sizeS)] rfl rfl (rrdF_new w2 1 sizeS) (by have := HX.out.2.2.2.2.2.2.2; simp; omega) (Nat.le_trans H2.out.2.size (Gw.alloc w2 _).size) ?_; intro v3 w3 ho3 hb3 hg3 hj3; have H3 := Lib.hid (And.intro ho3 ((H2.out.2.trans ((Gw.alloc w2 _).mono H2.out.2.size)).trans hb3)); clear ho3 hb3 hg3 hj3)
              rw [HE.out]
              exact ⟨v3, rfl, by rw [HX.out.2.2.2.2.2.1, if_neg (by rw [HN.out]; decide)]; exact H3.out.1, H3.out.2⟩
          · have HN := Lib.hid (show ok = false from by rw [HX.out.1]; exact decide_eq_false (fun h => c2 (ha16.trans h.2.2.1)))
            have k3 : (a16 != (n : Int)) = true := by rw [bne_iff_ne]; exact c2
            clear hsh hsh0 ha16 c1 c2 hbb
            go_wp2_with (at_builtin; refine rwp_appF rfl (.tmp 69) (.tmp 71) rfl rfl (H2.out.1.below (Gw.alloc w2 _)) (some ⟨w2.heap.size, 0, none⟩) 1 1 [(1, sizeS)] rfl rfl (rrdF_new w2 1 sizeS) (by have := HX.out.2.2.2.2.2.2.2; simp; omega) (Nat.le_trans H2.out.2.size (Gw.alloc w2 _).size) ?_; intro v3 w3 ho3 hb3 hg3 hj3; have H3 := Lib.hid (And.intro ho3 ((H2.out.2.trans ((Gw.alloc w2 _).mono H2.out.2.size)).trans hb3)); clear ho3 hb3 hg3 hj3)
            rw [HE.out]
            exact ⟨v3, rfl, by rw [HX.out.2.2.2.2.2.1, if_neg (by rw [HN.out]; decide)]; exact H3.out.1, H3.out.2⟩
        · have HN := Lib.hid (show ok = false from by rw [HX.out.1]; exact decide_eq_false (fun h => c1 (hsh.trans h.2.1)))
          have k3 : (U64 x1 / 281474976710656 != 0) = true := by rw [bne_iff_ne, ← hsh]; exact c1
          clear hsh c1 hbb
          go_wp2_with (at_builtin; refine rwp_appF rfl (.tmp 69) (.tmp 71) rfl rfl (H1.out.1.below (Gw.alloc w1 _)) (some ⟨w1.heap.size, 0, none⟩) 1 1 [(1, sizeS)] rfl rfl (rrdF_new w1 1 sizeS) (by have := HX.out.2.2.2.2.2.2.2; simp; omega) (Nat.le_trans H1.out.2.size (Gw.alloc w1 _).size) ?_; intro v3 w3 ho3 hb3 hg3 hj3; have H3 := Lib.hid (And.intro ho3 ((H1.out.2.trans ((Gw.alloc w1 _).mono H1.out.2.size)).trans hb3)); clear ho3 hb3 hg3 hj3)
          rw [HE.out]
          exact ⟨v3, rfl, by rw [HX.out.2.2.2.2.2.1, if_neg (by rw [HN.out]; decide)]; exact H3.out.1, H3.out.2⟩
end Go.Proofs.Ytkkjnahjmomjgaa
/- In the image of a graph nothing is wrong (pure). Conditions: a graph that Check lets. -/
namespace Go.Proofs.Ytkkjnahjmomjgaa
set_option linter.unusedVariables false
set_option linter.unusedSimpArgs false
open Go.RowKit Go.Maps
set_option maxHeartbeats 4000000
set_option maxRecDepth 100000
theorem field_hi (n : Nat) (h : n < 1099511627776) : U64 (fieldB (BitVec.ofNat 64 n) 48 16) = 0 := by
  unfold fieldB
  rw [if_pos (by decide)]
  have e : BitVec.ofNat 64 n >>> (48 : Int).toNat = 0#64 := by
    apply BitVec.eq_of_toNat_eq
    rw [BitVec.toNat_ushiftRight, BitVec.toNat_ofNat, Nat.mod_eq_of_lt (by omega)]
    show n >>> 48 = 0
    rw [Nat.shiftRight_eq_div_pow]
    exact Nat.div_eq_of_lt (by omega)
  rw [e]
  decide +kernel
theorem field_mid (R t : Nat) (hR : R < 65536) (ht : t < 16777216) : U64 (fieldB (BitVec.ofNat 64 (R + t * 65536)) 16 32) = (t : Int) := by
  unfold fieldB
  rw [if_pos (by decide)]
  have e : (BitVec.ofNat 64 (R + t * 65536) >>> (16 : Int).toNat) = BitVec.ofNat 64 t := by
    apply BitVec.eq_of_toNat_eq
    rw [BitVec.toNat_ushiftRight, BitVec.toNat_ofNat, BitVec.toNat_ofNat, Nat.mod_eq_of_lt (by omega), Nat.mod_eq_of_lt (by omega)]
    show (R + t * 65536) >>> 16 = t
    rw [Nat.shiftRight_eq_div_pow]
    omega
  rw [e]
  unfold U64
  rw [BitVec.toNat_and, lowB_nat 32 (by decide) (by decide), BitVec.toNat_ofNat, Nat.mod_eq_of_lt (by omega)]
  show ((t &&& (2 ^ 32 - 1) : Nat) : Int) = t
  rw [Nat.and_two_pow_sub_one_eq_mod, Nat.mod_eq_of_lt (by omega)]
theorem name_ok {s : ByteArray} (h : goodS s = true) : nmOk (nameW s) = true ∧ strB (cutN (nameW s)) = s := by
  have hg := good_bits h
  have hc := good_cut hg
  rw [nameW_pad]
  refine ⟨decide_eq_true ⟨?_, ?_⟩, ?_⟩
  · rw [hc]; exact hg
  · rw [hc]
  · rw [hc]; exact strB_bits s
theorem ckRoots_go {N : Nat} {s : ByteArray} {l : List Rv} {k : Nat} (h : k < l.length) (hc : ckRoots N s (l.drop k) = 0) : leS (l[k]).s s = false ∧ ckRoots N (l[k]).s (l.drop (k + 1)) = 0 := by
  rw [ckRoots_drop N s l k h] at hc
  by_cases h1 : goodS (l[k]).s = true ∧ leS (l[k]).s s = false
  · rw [if_pos h1] at hc
    by_cases h2 : okP N (l[k]).t = true
    · rw [if_pos h2] at hc; exact ⟨h1.2, hc⟩
    · rw [if_neg h2] at hc; cases hc
  · rw [if_neg h1] at hc; cases hc
theorem roots_nil {ns : List Nv} {rs : List Rv} (hr : ∀ r ∈ rs, goodS r.s = true ∧ okP ns.length r.t = true) (ht : endL ns (2 + 5 * rs.length) ≤ 8192) : ∀ (k i : Nat) (ab : ByteArray), i + k = rs.length → ckRoots ns.length ab (rs.drop i) = 0 → rootF (encW ns rs) (placeL ns (2 + 5 * rs.length)) k i ab = []
  | 0, _, _, _, _ => rfl
  | k + 1, i, ab, hi, hc => by
    have hil : i < rs.length := by omega
    obtain ⟨h1, h2⟩ := ckRoots_go hil hc
    obtain ⟨e1, e2⟩ := enc_root hr ht i hil
    obtain ⟨n1, n2⟩ := name_ok (hr _ (List.getElem_mem hil)).1
    have a1 : nmAt (encW ns rs) i = nameW rs[i].s := e1
    have a2 : nmS (encW ns rs) i = rs[i].s := by unfold nmS; rw [a1, n2]
    have a3 : leadB (encW ns rs) (placeL ns (2 + 5 * rs.length)) (2 + 5 * i + 4) = true := decide_eq_true e2
    have a4 : lessS rs[i].s ab = false := h1
    have ih := roots_nil hr ht k (i + 1) rs[i].s (by omega) h2
    unfold rootF rootE
    rw [a1, n1, a2, a3, a4]
    simpa using ih
theorem ckG_roots {g : Gv} (h : ckG g = 0) : ckRoots g.n.length ⟨#[]⟩ g.r = 0 := by
  unfold ckG at h
  by_cases h1 : ckNodes g.n.length g.n = 0
  · rw [if_pos h1] at h
    by_cases h2 : 64 < g.r.length
    · rw [if_pos h2] at h; cases h
    · rw [if_neg h2] at h; exact h
  · rw [if_neg h1] at h; exact absurd h h1
theorem ins_nil {g : Gv} (h : ckG g = 0) (ht : endL g.n (2 + 5 * g.r.length) ≤ 8192) : (foundN (encW g.n g.r) (encW g.n g.r).length ((encW g.n g.r).length + 1) (2 + 5 * g.r.length)).2 = none ∧ insF (encW g.n g.r) g.r.length = [] := by
  obtain ⟨h1, h2, h3⟩ := ckG_ok h
  obtain ⟨f1, f2⟩ := enc_found h1 h3 ht
  refine ⟨by rw [f1], ?_⟩
  unfold insF
  rw [f1, f2, roots_nil h3 ht g.r.length 0 _ (Nat.zero_add _) (by rw [List.drop_zero]; exact ckG_roots h)]
  rfl
end Go.Proofs.Ytkkjnahjmomjgaa
/- image.readNodes of objects that are well. Conditions: a space's objects. -/
namespace Go.Proofs.Ytkkjnahjmomjgaa
set_option linter.unusedVariables false
set_option linter.unusedSimpArgs false
open Go.RowKit Go.Maps
set_option maxHeartbeats 8000000
set_option maxRecDepth 100000
theorem two_new (w : World) (E F : TypeId) (a b : Value) : ((w.alloc (.cells #[a, b] E)).alloc (.cells #[a, b] F)).cell? ⟨w.heap.size + 1, 0, none⟩ = some a ∧ ((w.alloc (.cells #[a, b] E)).alloc (.cells #[a, b] F)).cell? ⟨w.heap.size + 1, 1, none⟩ = some b := by
  have h := Bk.new (w.alloc (.cells #[a, b] E)) F #[a, b]
  have e : (w.alloc (.cells #[a, b] E)).heap.size = w.heap.size + 1 := by unfold World.alloc; simp
  rw [e] at h
  exact ⟨h.cell 0, h.cell 1⟩
theorem nown_form {W : World} {base : Nat} {v : Value} {xs : List Nv} (h : NOwn W base v xs) : ∃ A c, v = .slice A xs.length c := own_form h.row
theorem readNodes_c (w : World) (B s g : Nat) (v : Value) (ws : List (BitVec 64)) (b t e : Nat) (sp : SpAt w B s g v ws b t e) (h8 : ws.length ≤ 8192) (l : List Nat) (ho : objF ws t (t + 1) b = some l) (hwl : l.all (wellN ws l) = true) :
    Calls Try.prog 76 #[.pointer (some ⟨s, 0, none⟩)] w (NodesP w ws l) := by
  have hw := well_c w B s g v ws b t e sp h8
  rw [well_some ho, if_pos hwl] at hw
  have HW := Lib.hid hw
  have hob := fun W (q : SpAt W B s g v ws b t e) => objects_c W B s g v ws b t e q (by omega)
  rw [ho] at hob
  have HOb := Lib.hid (fun W (q : SpAt W B s g v ws b t e) => show Calls Try.prog 97 #[.pointer (some ⟨s, 0, none⟩)] W (MkEP iN 3 l 0 W) from hob W q)
  have hmem := objF_mem (t + 1) b l ho
  have hrise := objF_rise ws t (t + 1) b l ho
  have hlen : l.length ≤ 8193 := by
    have h1 := objF_len (t + 1) b l ho
    have h2 := sp.te
    have h3 := sp.el
    omega
  obtain ⟨E, hE⟩ : ∃ E, E = NodesP w ws l := ⟨_, rfl⟩
  rw [← hE]
  have HE := Lib.hid hE
  obtain ⟨N, hN⟩ : ∃ N, N = l.length := ⟨_, rfl⟩
  have NI : (N : Int) ≤ 8193 := by omega
  have HX := Lib.hid (And.intro hN (And.intro hmem (And.intro hrise (And.intro hlen (And.intro h8 (List.all_eq_true.1 hwl))))))
  have HSp := Lib.hid sp
  have hmm := @run_makeMap Try.prog
  clear hw hob hmem hrise hlen hN h8 hwl sp ho hE
  go_enter Try.func76, Try.ntmps76
  go_wp2_with fail
  refine Calls.mono HW.out ?_
  rintro r w1 ⟨rfl, b1⟩
  have H1 := Lib.hid b1
  clear b1 HW
  go_wp2_with fail
  refine Calls.mono (HOb.out w1 (HSp.out.below H1.out)) ?_
  rintro r w2 ⟨A, c, rfl, hc, ho2, b2⟩
  rw [← HX.out.1] at ho2 ⊢
  have H2 := Lib.hid (show Ow iN 3 w2 w1.heap.size (.slice A N c) l ∧ Below w.heap.size w w2 from ⟨ho2, H1.out.trans (b2.mono H1.out.size)⟩)
  clear hc ho2 b2 HOb H1
  have HM0 := Lib.hid (show MapIs (w2.alloc (.map #[] 0)) (some w2.heap.size) [] from tighten (l := []) (World.ownsMap_made w2 Try.prog 3 (plainElem Try.prog 3)))
  go_wp2_with (refine wp_ins_is rfl _ _ _ rfl rfl HM0.out (-1) 0 rfl rfl (by decide) (by decide) (by simp) ?_; intro w4 hm4 hk4; have H4 := Lib.hid (show MapIs w4 (some w2.heap.size) (numM []) ∧ Below w2.heap.size w2 w4 from ⟨hm4, (Gw.alloc w2 (.map #[] 0)).trans (hk4.below (by simp) (fun j hj => by injection hj with hj; omega))⟩); clear hm4 hk4)
  obtain ⟨mb, hmb⟩ : ∃ mb, mb = w2.heap.size := ⟨_, rfl⟩
  have HS0 : Hid (MapIs w4 (some mb) (numM (l.take 0)) ∧ Below w2.heap.size w2 w4) := Lib.hid (by rw [hmb]; exact H4.out)
  rw [← hmb]
  have HMb := Lib.hid (Nat.le_of_eq hmb.symm)
  clear hmb H4 HM0 hmm
  go_loopw [33] (fun x W => ∃ k : Nat, x = .int .i64 k ∧ k ≤ N ∧ Hid (MapIs W (some mb) (numM (l.take k)) ∧ Below w2.heap.size w2 W)) (fun x _ => N - (Go.RowKit.intOf x).toNat)
  case atStart => exact ⟨0, rfl, Nat.zero_le _, HS0⟩
  case round =>
    obtain ⟨k, rfl, hk, hS⟩ := hrel
    clear HS0
    have p0 : (0 : Int) ≤ (k : Int) := by omega
    by_cases hlt : k < N
    · have p1 : (k : Int) < (N : Int) := by omega
      have hkl : k < l.length := by rw [← HX.out.1]; exact hlt
      have hrow : Ow iN 3 wr w1.heap.size (.slice A l.length c) l := by rw [← HX.out.1]; exact H2.out.1.below hS.out.2
      obtain ⟨ad, rfl, hlt2, hc⟩ := hrow.rd k hkl
      obtain ⟨a, ha⟩ : ∃ a, a = l[k] := ⟨_, rfl⟩
      rw [← ha] at hc
      unfold iN at hc
      obtain ⟨m1, m2, m3⟩ := HX.out.2.1 a (by rw [ha]; exact List.getElem_mem hkl)
      have htk : l.take (k + 1) = l.take k ++ [a] := by rw [ha]; exact List.take_succ_eq_append_getElem hkl
      have hstep : putI (numM (l.take k)) (a : Int) ((k + 1 : Nat) : Int) = numM (l.take (k + 1)) := by
        have h1 := numM_step (l.take k) a (fun y hy => by
          have h2 := HX.out.2.2.1
          rw [← List.take_append_drop (k + 1) l, htk] at h2
          exact (List.pairwise_append.1 (List.pairwise_append.1 h2).1).2.2 y hy a (by simp))
        rw [List.length_take, Nat.min_eq_left (by omega), ← htk] at h1
        exact h1
      have a8 : a ≤ 8192 := by
        have h1 := HSp.out.te
        have h2 := HSp.out.el
        have h3 := HX.out.2.2.2.2.1
        omega
      have HA := Lib.hid (show (Lit.int .i64 (a : Int)).wf = true ∧ (Lit.int .i64 ((k : Int) + 1)).wf = true ∧ (numM (l.take k)).length ≤ 1000000 from by
        refine ⟨by simp [Lit.wf, IntKind.min, IntKind.max, IntKind.signed, IntKind.bits]; omega, by simp [Lit.wf, IntKind.min, IntKind.max, IntKind.signed, IntKind.bits]; omega, ?_⟩
        unfold numM
        rw [List.length_cons, numsL_len, List.length_take]
        have := HX.out.2.2.2.1
        omega)
      have HX2 := Lib.hid hstep
      have H0 := hS
      clear hkl hrow ha m1 m2 m3 htk hstep a8 hS hk
      go_wp2_with (refine wp_put_is rfl _ _ _ rfl rfl H0.out.1 (a : Int) ((k : Int) + 1) rfl rfl HA.out.1 HA.out.2.1 HA.out.2.2 ?_; intro w6 hm6 hk6; have H6 := Lib.hid (show MapIs w6 (some mb) (numM (l.take (k + 1))) ∧ Below w2.heap.size w2 w6 from ⟨by rw [← HX2.out]; exact hm6, H0.out.2.trans (hk6.below H0.out.2.size (fun j hj => by injection hj with hj; have := HMb.out; omega))⟩); clear hm6 hk6)
      go_roundw
      case rel => exact ⟨k + 1, by go_num, by omega, H6⟩
      case measure => simp [Go.RowKit.intOf]; omega
    · have p1 : ¬ (k : Int) < (N : Int) := by omega
      have hkl : l.take k = l := List.take_of_length_le (by have := HX.out.1; omega)
      obtain ⟨wS, hwS⟩ : ∃ x, x = wr := ⟨_, rfl⟩
      subst hwS
      have h0 := hS.out
      rw [hkl] at h0
      have HSS := Lib.hid (show MapIs wS (some mb) (numM l) ∧ Below w2.heap.size w2 wS ∧ Below w.heap.size w wS ∧ Ow iN 3 wS w1.heap.size (.slice A N c) l from ⟨h0.1, h0.2, H2.out.2.trans (h0.2.mono H2.out.2.size), H2.out.1.below h0.2⟩)
      clear hkl hS h0 hk hlt
      go_wp2_with fail
      clear p1 p0
      go_loopw [11, 45] (fun o x W => ∃ k : Nat, x = .int .i64 k ∧ k ≤ N ∧ Hid (∃ xs, NOwn W wS.heap.size o xs ∧ xs.map normN = (l.take k).map (dNode ws l) ∧ Below wS.heap.size wS W)) (fun _ x _ => N - (Go.RowKit.intOf x).toNat)
      case atStart => exact ⟨0, rfl, Nat.zero_le _, Lib.hid ⟨[], NOwn.nil _ _, rfl, Below.refl _ _⟩⟩
      case round =>
        obtain ⟨k, rfl, hk, hS⟩ := hrel
        have p0 : (0 : Int) ≤ (k : Int) := by omega
        obtain ⟨xs, e1, e2, e3⟩ := hS.out
        by_cases hlt : k < N
        · have p1 : (k : Int) < (N : Int) := by omega
          have hkl : k < l.length := by rw [← HX.out.1]; exact hlt
          have hrow : Ow iN 3 wr w1.heap.size (.slice A l.length c) l := by rw [← HX.out.1]; exact HSS.out.2.2.2.below e3
          obtain ⟨ad, rfl, hlt2, hc⟩ := hrow.rd k hkl
          obtain ⟨a, ha⟩ : ∃ a, a = l[k] := ⟨_, rfl⟩
          rw [← ha] at hc
          unfold iN at hc
          have hal : a ∈ l := by rw [ha]; exact List.getElem_mem hkl
          obtain ⟨m1, m2, m3⟩ := HX.out.2.1 a hal
          have htk : l.take (k + 1) = l.take k ++ [a] := by rw [ha]; exact List.take_succ_eq_append_getElem hkl
          have hsp : SpAt wr B s g v ws b t e := (HSp.out.below HSS.out.2.2.1).below (e3.mono (Nat.le_refl _))
          have hmp : MapIs wr (some mb) (numM l) := HSS.out.1.kept (Kept.of_below e3 (fun _ => False)) (fun _ _ f => f)
          have HRn := Lib.hid (readNode_c wr B s g mb v ws b t e hsp HX.out.2.2.2.2.1 l hmp (fun y hy => ⟨(HX.out.2.1 y hy).1, (HX.out.2.1 y hy).2.1⟩) a m1 m2 m3 (HX.out.2.2.2.2.2 a hal))
          have hxl : xs.length ≤ 100000 := by
            have h1 := congrArg List.length e2
            rw [List.length_map, List.length_map, List.length_take] at h1
            have := HX.out.2.2.2.1
            omega
          have H0 := Lib.hid (And.intro e1 (And.intro e2 (And.intro e3 (And.intro hxl htk))))
          obtain ⟨oA, oc, eo⟩ := nown_form e1
          obtain ⟨on, hon⟩ : ∃ n, n = xs.length := ⟨_, rfl⟩
          rw [← hon] at eo
          subst eo
          clear hkl hrow ha hal m1 m2 m3 htk hsp hmp hxl e1 e2 e3 hS hon hk
          go_wp2_with fail
          refine Calls.mono HRn.out ?_
          rintro r w6 ⟨x, rfl, hx1, hx2, hx3, hx4, b6⟩
          obtain ⟨xA, xc, xD, xd, xps, xbs⟩ := x
          have HXx := Lib.hid (And.intro hx1 (And.intro hx2 (And.intro hx3 (And.intro hx4 b6))))
          unfold Nv.v Nv.vp Nv.vd at *
          simp only at *
          obtain ⟨nx, hnx⟩ : ∃ z, z = xps.length := ⟨_, rfl⟩
          obtain ⟨mx, hmx⟩ : ∃ z, z = xbs.length := ⟨_, rfl⟩
          rw [← hnx, ← hmx]
          have HV := Lib.hid (show ((w6.alloc (.cells #[.slice xA nx xc, .slice xD mx xd] 54)).alloc (.cells #[.slice xA nx xc, .slice xD mx xd] 54)).cell? ⟨w6.heap.size + 1, 0, none⟩ = some (Nv.mk xA xc xD xd xps xbs).vp ∧ ((w6.alloc (.cells #[.slice xA nx xc, .slice xD mx xd] 54)).alloc (.cells #[.slice xA nx xc, .slice xD mx xd] 54)).cell? ⟨w6.heap.size + 1, 1, none⟩ = some (Nv.mk xA xc xD xd xps xbs).vd ∧ Below wr.heap.size wr ((w6.alloc (.cells #[.slice xA nx xc, .slice xD mx xd] 54)).alloc (.cells #[.slice xA nx xc, .slice xD mx xd] 54)) from by
            unfold Nv.vp Nv.vd
            simp only
            rw [← hnx, ← hmx]
            refine ⟨(two_new w6 _ _ _ _).1, (two_new w6 _ _ _ _).2, ?_⟩
            exact (HXx.out.2.2.2.2.trans ((Gw.alloc w6 _).mono HXx.out.2.2.2.2.size)).trans ((Gw.alloc _ _).mono (Nat.le_trans HXx.out.2.2.2.2.size (Gw.alloc w6 _).size)))
          have HOx := Lib.hid (show Ow iV 3 ((w6.alloc (.cells #[.slice xA nx xc, .slice xD mx xd] 54)).alloc (.cells #[.slice xA nx xc, .slice xD mx xd] 54)) wS.heap.size (Nv.mk xA xc xD xd xps xbs).vp xps ∧ Ow b8 5 ((w6.alloc (.cells #[.slice xA nx xc, .slice xD mx xd] 54)).alloc (.cells #[.slice xA nx xc, .slice xD mx xd] 54)) wS.heap.size (Nv.mk xA xc xD xd xps xbs).vd xbs from
            ⟨((HXx.out.2.1.alloc _).alloc _).mono H0.out.2.2.1.size, ((HXx.out.2.2.1.alloc _).alloc _).mono H0.out.2.2.1.size⟩)
          have HF := Lib.hid (show (∀ j, (Nv.mk xA xc xD xd xps xbs).vp.ownBlock = some j → wr.heap.size ≤ j) ∧ (∀ j, (Nv.mk xA xc xD xd xps xbs).vd.ownBlock = some j → wr.heap.size ≤ j) ∧ (∀ j, (Nv.mk xA xc xD xd xps xbs).vp.ownBlock = some j → (Nv.mk xA xc xD xd xps xbs).vd.ownBlock ≠ some j) from
            ⟨fun j hj => (HXx.out.2.1.lt j hj).1, fun j hj => (HXx.out.2.2.1.lt j hj).1, HXx.out.2.2.2.1⟩)
          clear hx1 hx2 hx3 hx4 b6 hnx hmx HRn hc
          go_wp2_with (at_builtin; refine wp_appNv rfl (.tmp 59) (.tmp 61) rfl wr wS.heap.size _ xs (Nv.mk xA xc xD xd xps xbs) rfl H0.out.1 HV.out.2.2 HOx.out HF.out (w6.heap.size + 1) 1 rfl HV.out.1 HV.out.2.1 H0.out.2.2.2.1 H0.out.2.2.1.size ?_; intro v7 w7 ho7 hb7; obtain ⟨A7, c7, e7⟩ := nown_form ho7; obtain ⟨n7, hn7⟩ : ∃ n, n = (xs ++ [Nv.mk xA xc xD xd xps xbs]).length := ⟨_, rfl⟩; rw [← hn7] at e7; subst e7; clear hn7; have H7 := Lib.hid (And.intro ho7 ((H0.out.2.2.1.trans (HV.out.2.2.mono H0.out.2.2.1.size)).trans hb7)); clear ho7 hb7)
          go_roundw
          case rel => exact ⟨k + 1, by go_num, by omega, Lib.hid ⟨_, H7.out.1, by rw [H0.out.2.2.2.2, List.map_append, List.map_append, H0.out.2.1, List.map_cons, List.map_cons, HXx.out.1]; rfl, H7.out.2⟩⟩
          case measure => simp [Go.RowKit.intOf]; omega
        · have p1 : ¬ (k : Int) < (N : Int) := by omega
          have hkl : l.take k = l := List.take_of_length_le (by have := HX.out.1; omega)
          rw [hkl] at e2
          obtain ⟨oA, oc, eo⟩ := nown_form e1
          obtain ⟨on, hon⟩ : ∃ n, n = xs.length := ⟨_, rfl⟩
          rw [← hon] at eo
          subst eo
          have HF := Lib.hid (show NodesP w ws l (.returned (.tuple #[.slice oA on oc, .map (some mb), .int .i64 0])) wr from
            ⟨_, mb, xs, rfl, e1.mono HSS.out.2.2.1.size, e2, HSS.out.1.kept (Kept.of_below e3 (fun _ => False)) (fun _ _ f => f), HSS.out.2.2.1.trans (e3.mono HSS.out.2.2.1.size)⟩)
          clear e1 e2 e3 hS hk hkl hon
          go_wp2_with fail
          first
            | (rw [HE.out]; exact HF.out)
            | (refine bodyPost_ret (v := .tuple #[.slice oA on oc, .map (some mb), .int .i64 0]) (by kernel_rfl) rfl ?_; rw [HE.out]; exact HF.out)
end Go.Proofs.Ytkkjnahjmomjgaa
/- image.putNodes: the walk. Conditions: a graph that Check lets, room for it. -/
namespace Go.Proofs.Ytkkjnahjmomjgaa
set_option linter.unusedVariables false
set_option linter.unusedSimpArgs false
open Go.RowKit Go.Maps
set_option maxHeartbeats 8000000
set_option maxRecDepth 100000
def PutP (w : World) (B s g : Nat) (v : Value) (ns : List Nv) (b need : Nat) (r : Ending) (w' : World) : Prop :=
  ∃ pv, r = .returned (.tuple #[pv, .int .i64 0]) ∧ PuAt w' B s g v (List.replicate b 0#64 ++ ns.flatMap (nodeW (placeL ns b))) b need need w.heap.size pv (plI ns b) ∧ Below B w w'
theorem ow_iV_some {w : World} {B : Nat} {v : Value} {x : Int} {l : List Int} (h : Ow iV 3 w B v (x :: l)) : ∃ q c, v = .slice (some ⟨q, 0, none⟩) (l.length + 1) c ∧ B ≤ q := by
  rcases h.2 with ⟨e, hn⟩ | ⟨g, cap, cur, e, hb, hh, hc, _⟩
  · cases hn
  · exact ⟨g, cap, e, hb⟩
/-- What places[p] is, and what SetPtr makes of it. -/
theorem set_place (ns : List Nv) (b : Nat) (p : Int) (h : okP ns.length p = true) : ∃ z : Int, (0 ≤ p ∧ p ≤ (ns.length : Int)) ∧ ∃ (h2 : p.toNat < (plI ns b).length), (plI ns b)[p.toNat] = z ∧
    ∀ (w : World) (B s g : Nat) (v : Value) (ws : List (BitVec 64)) (t e : Nat) (_ : SpAt w B s g v ws b t e) (_ : ws.length ≤ 100000) (a k : Nat) (_ : b ≤ a) (_ : a < t) (_ : goodX (ws.getD a 0#64) (t - a) = true) (_ : k < P0 (ws.getD a 0#64)) (_ : endL ns b ≤ t),
      Calls Try.prog 61 #[.pointer (some ⟨s, 0, none⟩), .int .i64 a, .int .i64 k, .int .i64 z] w (SetP w B s g v (ws.set (a + 1 + k) (pointW (placeL ns b) p)) b t e) := by
  by_cases h0 : p = 0
  · subst h0
    refine ⟨-1, by omega, by rw [plI_len]; show 0 < _; omega, rfl, fun w B s g v ws t e q hl a k h1 h2 h3 h4 _ => ?_⟩
    exact setptr_nil w B s g v ws b t e q hl a k h1 h2 h3 h4
  · have hh : 1 ≤ p ∧ p ≤ (ns.length : Int) := by
      unfold okP hasG at h
      simpa [h0] using h
    have hk : p.toNat - 1 < ns.length := by omega
    have e := plI_at ns b (p.toNat - 1) hk
    rw [show p.toNat - 1 + 1 = p.toNat from by omega] at e
    obtain ⟨hl, he⟩ := List.getElem?_eq_some_iff.1 e
    refine ⟨_, ⟨by omega, hh.2⟩, hl, he, fun w B s g v ws t e q hl a k h1 h2 h3 h4 h5 => ?_⟩
    have hpl := placeL_at ns b (p.toNat - 1) hk
    have hm : endL (ns.take (p.toNat - 1)) b ∈ placeL ns b := by
      rw [← hpl, List.getD_eq_getElem?_getD, List.getElem?_eq_getElem (by rw [placeL_len]; exact hk)]
      exact List.getElem_mem _
    have hlt := placeL_lt ns b _ hm
    have h := setptr_to w B s g v ws b t e q hl a k (endL (ns.take (p.toNat - 1)) b) h1 h2 h3 h4 hlt.1 (by omega)
    have ew : pointW (placeL ns b) p = BitVec.ofNat 64 (endL (ns.take (p.toNat - 1)) b + 1) := by
      unfold pointW
      rw [if_neg h0, hpl]
    rw [ew]
    exact h
theorem putNodes_c (w : World) (B s g : Nat) (v : Value) (ns : List Nv) (b need ca : Nat) (A : Option Addr) (sp : SpAt w B s g v (List.replicate need 0#64) b b need) (hneed : need = endL ns b) (h8 : need ≤ 8192) (hA : NRow w B A ns) (hx : ∀ x ∈ ns, (∀ p ∈ x.ps, okP ns.length p = true) ∧ x.ps.length ≤ 64 ∧ x.bs.length ≤ 1024) :
    Calls Try.prog 26 #[.pointer (some ⟨s, 0, none⟩), .slice A ns.length ca] w (PutP w B s g v ns b need) := by
  obtain ⟨E, hE⟩ : ∃ E, E = PutP w B s g v ns b need := ⟨_, rfl⟩
  rw [← hE]
  have HE := Lib.hid hE
  obtain ⟨N, hN⟩ : ∃ N, N = ns.length := ⟨_, rfl⟩
  have hN8 : N ≤ 8192 := by have := endL_len ns b; omega
  have NI : (N : Int) ≤ 8192 := by omega
  obtain ⟨S, hS⟩ : ∃ S, S = w.heap.size := ⟨_, rfl⟩
  have hss : s < S ∧ g < S ∧ (∀ k, v.ownBlock = some k → k < S) := by
    rw [hS]
    exact ⟨sp.blk.lt, sp.mem.blk.lt, fun k hk => (sp.mem.row.lt k hk).2⟩
  have hp0 : PuAt (w.alloc (.cells #[.int .i64 (-1)] 3)) B s g v (madeW ns b need 0) b (endL (ns.take 0) b) need S (.slice (some ⟨w.heap.size, 0, none⟩) 1 1) (plI (ns.take 0) b) := by
    refine ⟨?_, ?_, hss.1, hss.2.1, hss.2.2, ?_⟩
    · have e : madeW ns b need 0 = List.replicate need 0#64 := by
        unfold madeW
        rw [List.take_zero]
        show (List.replicate b 0#64 ++ []) ++ List.replicate (need - b) 0#64 = _
        rw [List.append_nil, List.replicate_append_replicate, show b + (need - b) = need from by have := sp.te; omega]
      rw [e]
      exact sp.below (Gw.alloc w _)
    · rw [hS]; exact ow_iV1 w (-1)
    · rw [hS]; exact (Gw.alloc w _).size
  have HG := Lib.hid (And.intro hneed (And.intro h8 (And.intro hA (And.intro hx (And.intro hN (And.intro hS hss))))))
  have HP0 := Lib.hid (show ∃ pv, PuAt (w.alloc (.cells #[.int .i64 (-1)] 3)) B s g v (madeW ns b need 0) b (endL (ns.take 0) b) need S pv (plI (ns.take 0) b) ∧ Below B w (w.alloc (.cells #[.int .i64 (-1)] 3)) ∧ pv = .slice (some ⟨w.heap.size, 0, none⟩) 1 1 from ⟨_, hp0, (Gw.alloc w _).mono sp.mem.le, rfl⟩)
  rw [← hN]
  clear sp hneed hA hx hE hN hss hp0 h8 hN8 hS
  go_enter Try.func26, Try.ntmps26
  go_wp2_with fail
  go_loopw [6, 21] (fun o x W => ∃ k : Nat, x = .int .i64 k ∧ k ≤ N ∧ Hid (PuAt W B s g v (madeW ns b need k) b (endL (ns.take k) b) need S o (plI (ns.take k) b) ∧ Below B w W)) (fun _ x _ => N - (Go.RowKit.intOf x).toNat)
  case atStart =>
    obtain ⟨pv, h1, h2, rfl⟩ := HP0.out
    exact ⟨0, rfl, Nat.zero_le _, Lib.hid ⟨h1, h2⟩⟩
  case round =>
    obtain ⟨k, rfl, hk, hS⟩ := hrel
    clear HP0
    have p0 : (0 : Int) ≤ (k : Int) := by omega
    by_cases hlt : k < N
    · have p1 : (k : Int) < (N : Int) := by omega
      have hkl : k < ns.length := by rw [← HG.out.2.2.2.2.1]; exact hlt
      obtain ⟨x, hx⟩ : ∃ x, x = ns[k] := ⟨_, rfl⟩
      obtain ⟨x1, x2, x3⟩ := HG.out.2.2.2.1 x (by rw [hx]; exact List.getElem_mem hkl)
      obtain ⟨ad, rfl, hadl, hc2, hc3⟩ : ∃ ad, A = some ad ∧ ad.block < B ∧ wr.cell? (ad.add (k * 2)) = some x.vp ∧ wr.cell? ⟨(ad.add (k * 2)).block, (ad.add (k * 2)).off + 1, none⟩ = some x.vd := by
        obtain ⟨ad, e, h0, h1, h2, h3⟩ := (HG.out.2.2.1.below hS.out.2) k hkl
        exact ⟨ad, e, h0, by rw [hx]; exact h1, by rw [hx]; exact h2⟩
      obtain ⟨a, ha⟩ : ∃ a, a = endL (ns.take k) b := ⟨_, rfl⟩
      obtain ⟨sz, hsz⟩ : ∃ sz, sz = szG x := ⟨_, rfl⟩
      have htk : ns.take (k + 1) = ns.take k ++ [x] := by rw [hx]; exact List.take_succ_eq_append_getElem hkl
      have he : endL (ns.take (k + 1)) b = a + sz := by rw [htk, endL_snoc, ← ha, hsz]
      have hle : a + sz ≤ need := by rw [← he, HG.out.1]; exact endL_take_le ns (k + 1) b
      have hs1 : 1 ≤ sz := by rw [hsz]; unfold szG; omega
      have hst : allocW (madeW ns b need k) a sz (headW x) = madeW ns b need (k + 1) := by rw [ha, hsz, hx]; exact made_step ns b need k hkl HG.out.1
      have hrt : rightH (x.ps.length : Int) (x.bs.length : Int) false 0 = true := by unfold rightH; simp; omega
      have hsh : sizeH (x.ps.length : Int) (x.bs.length : Int) false 0 = (sz : Int) := by
        rw [hsz]
        unfold sizeH szG
        rw [if_pos ⟨hrt, rfl⟩]
        omega
      have hml := made_len ns b need k HG.out.1
      have HAl := Lib.hid (fun W (q : SpAt W B s g v (madeW ns b need k) b a need) => alloc_ok3 W B s g v (madeW ns b need k) b a need q (by have := HG.out.2.1; omega) (x.ps.length : Int) (x.bs.length : Int) 0 sz hrt hsh hs1 (by omega))
      rw [show packH (x.ps.length : Int) (x.bs.length : Int) false 0 = headW x from rfl, hst] at HAl
      obtain ⟨nx, hnx⟩ : ∃ z, z = x.ps.length := ⟨_, rfl⟩
      obtain ⟨mx, hmx⟩ : ∃ z, z = x.bs.length := ⟨_, rfl⟩
      obtain ⟨xA, xc, xD, xd, xps, xbs⟩ := x
      unfold Nv.vp at hc2
      unfold Nv.vd at hc3
      simp only at hc2 hc3 hnx hmx HAl
      rw [← hnx] at hc2 HAl
      rw [← hmx] at hc3 HAl
      rw [← ha] at hS
      obtain ⟨e1, e2⟩ := hS.out
      have hpl : plI (ns.take (k + 1)) b = plI (ns.take k) b ++ [(a : Int)] := by rw [htk, plI_snoc, ← ha]
      have hll : (plI (ns.take k) b).length + [(a : Int)].length ≤ 4294967296 := by rw [plI_len, List.length_take]; simp; omega
      have HX := Lib.hid (And.intro he (And.intro hpl (And.intro hk hll)))
      have H0 := Lib.hid hS.out
      have a8 : (a : Int) ≤ 8192 := by have := HG.out.2.1; omega
      clear hx hS ha hsz htk he hle hs1 hst hrt hsh hml hnx hmx e1 e2 hpl hll hkl x1 x2 x3 hk
      go_wp2_with fail
      refine Calls.mono (HAl.out _ (H0.out.1.sp.below (Gw.alloc wr _))) ?_
      rintro r w5 ⟨rfl, q5, b5, t5⟩
      have H5 := Lib.hid (show PuAt w5 B s g v (madeW ns b need (k + 1)) b (a + sz) need S _ (plI (ns.take k) b) ∧ Below B w w5 from ⟨(H0.out.1.below (Gw.alloc wr _)).two q5 t5, (H0.out.2.trans ((Gw.alloc wr _).mono H0.out.1.sp.mem.le)).trans b5⟩)
      clear q5 b5 t5 hc2 hc3 HAl H0
      go_wp2_with (at_builtin; refine wp_app oneI iV_one rfl (.tmp 40) (.tmp 42) rfl S _ (plI (ns.take k) b) rfl (H5.out.1.row.alloc _) (some ⟨w5.heap.size, 0, none⟩) 1 1 [(a : Int)] rfl rfl (w5.heap.size + 1) (rd1_new rfl) HX.out.2.2.2 (by decide) (Nat.le_trans H5.out.1.sz (Gw.alloc w5 _).size) ?_; intro v6 w6 ho6 hb6 hg6 hj6; have H6 := Lib.hid (And.intro ((H5.out.1.below (Gw.alloc w5 _)).app (HX.out.2.1 ▸ ho6) hg6) ((H5.out.2.trans ((Gw.alloc w5 _).mono H5.out.1.sp.mem.le)).trans (hb6.mono H5.out.1.low))); clear ho6 hb6 hg6 hj6)
      go_roundw
      case rel => exact ⟨k + 1, by go_num, by omega, Lib.hid (by rw [HX.out.1]; exact H6.out)⟩
      case measure => simp [Go.RowKit.intOf]; omega
    · have p1 : ¬ (k : Int) < (N : Int) := by omega
      have hkN : k = ns.length := by have := HG.out.2.2.2.2.1; omega
      obtain ⟨e1, e2⟩ := hS.out
      rw [hkN, made_all ns b need (placeL ns b) HG.out.1, List.take_length, ← HG.out.1] at e1
      obtain ⟨q, cq, eo, hqS⟩ := ow_iV_some (x := -1) (l := (placeL ns b).map (fun a : Nat => (a : Int))) e1.row
      rw [List.length_map, placeL_len, ← HG.out.2.2.2.2.1] at eo
      subst eo
      have HS0 : Hid (PuAt wr B s g v (doneW (placeL ns b) ns b 0) b need need S (.slice (some ⟨q, 0, none⟩) (N + 1) cq) (plI ns b) ∧ Below B w wr) := Lib.hid ⟨e1, e2⟩
      clear e1 e2 hS hk hkN p1 p0
      go_wp2_with fail
      go_loopw [47] (fun x W => ∃ k : Nat, x = .int .i64 k ∧ k ≤ N ∧ Hid (PuAt W B s g v (doneW (placeL ns b) ns b k) b need need S (.slice (some ⟨q, 0, none⟩) (N + 1) cq) (plI ns b) ∧ Below B w W)) (fun x _ => N - (Go.RowKit.intOf x).toNat)
      case atStart => exact ⟨0, rfl, Nat.zero_le _, HS0⟩
      case round =>
        obtain ⟨k, rfl, hk, hS⟩ := hrel
        clear HS0
        have p0 : (0 : Int) ≤ (k : Int) := by omega
        by_cases hlt : k < N
        · have p1 : (k : Int) < (N : Int) := by omega
          have hkl : k < ns.length := by rw [← HG.out.2.2.2.2.1]; exact hlt
          obtain ⟨x, hx⟩ : ∃ x, x = ns[k] := ⟨_, rfl⟩
          obtain ⟨x1, x2, x3⟩ := HG.out.2.2.2.1 x (by rw [hx]; exact List.getElem_mem hkl)
          obtain ⟨ad, rfl, hadl, hc2, hc3, hxa⟩ : ∃ ad, A = some ad ∧ ad.block < B ∧ wr.cell? (ad.add (k * 2)) = some x.vp ∧ wr.cell? ⟨(ad.add (k * 2)).block, (ad.add (k * 2)).off + 1, none⟩ = some x.vd ∧ x.At w B := by
            obtain ⟨ad, e, h0, h1, h2, h3⟩ := (HG.out.2.2.1.below hS.out.2) k hkl
            obtain ⟨_, _, _, _, _, h3'⟩ := HG.out.2.2.1 k hkl
            exact ⟨ad, e, h0, by rw [hx]; exact h1, by rw [hx]; exact h2, by rw [hx]; exact h3'⟩
          obtain ⟨e1, e2⟩ := hS.out
          obtain ⟨a, ha⟩ : ∃ a, a = endL (ns.take k) b := ⟨_, rfl⟩
          have hap := plI_at ns b k hkl
          rw [← ha] at hap
          obtain ⟨hpl, hpe⟩ := List.getElem?_eq_some_iff.1 hap
          have hpc := e1.row.cell hpl
          have hql : q < wr.heap.size := e1.row.ge.2
          rw [hpe] at hpc
          unfold iV at hpc
          have k1 : (k : Int) + 1 = ((k + 1 : Nat) : Int) := by omega
          obtain ⟨kk, hkk⟩ : ∃ kk, kk = k + 1 := ⟨_, rfl⟩
          rw [← hkk] at hpc k1
          have kI : (kk : Int) < ((N + 1 : Nat) : Int) := by omega
          obtain ⟨NN, hNN⟩ : ∃ NN, NN = N + 1 := ⟨_, rfl⟩
          rw [← hNN] at kI ⊢
          have hfacts := half_all_len (placeL ns b) ns b need k
          have HX := Lib.hid (And.intro hx (And.intro x1 (And.intro x2 (And.intro x3 (And.intro hxa (And.intro ha (And.intro hkl (And.intro hkk hNN))))))))
          have H0 := Lib.hid (show PuAt wr B s g v ((List.replicate b 0#64 ++ (ns.take k).flatMap (nodeW (placeL ns b))) ++ halfW (placeL ns b) x 0 ++ (ns.drop (k + 1)).flatMap blankW) b need need S (.slice (some ⟨q, 0, none⟩) NN cq) (plI ns b) ∧ Below B w wr from ⟨by rw [hx, ← done_split _ _ _ _ hkl, hNN]; exact e1, e2⟩)
          obtain ⟨nx, hnx⟩ : ∃ z, z = x.ps.length := ⟨_, rfl⟩
          obtain ⟨mx, hmx⟩ : ∃ z, z = x.bs.length := ⟨_, rfl⟩
          have HY := Lib.hid (And.intro hnx hmx)
          have nI : (nx : Int) ≤ 64 := by omega
          have a8 : (a : Int) ≤ 8192 := by
            have h1 := endL_take_le ns k b
            rw [← ha, ← HG.out.1] at h1
            have := HG.out.2.1
            omega
          unfold Nv.vp at hc2
          unfold Nv.vd at hc3
          rw [← hnx] at hc2
          rw [← hmx] at hc3
          obtain ⟨xA, hxA⟩ : ∃ z, z = x.A := ⟨_, rfl⟩
          obtain ⟨xc, hxc⟩ : ∃ z, z = x.c := ⟨_, rfl⟩
          obtain ⟨xD, hxD⟩ : ∃ z, z = x.D := ⟨_, rfl⟩
          obtain ⟨xd, hxd⟩ : ∃ z, z = x.d := ⟨_, rfl⟩
          rw [← hxA, ← hxc] at hc2
          rw [← hxD, ← hxd] at hc3
          have HZ := Lib.hid (And.intro hxA hxD)
          clear hx x1 x2 x3 hxa e1 e2 ha hap hpl hpe hS hnx hmx hfacts hxA hxc hxD hxd hk hkk hNN
          go_wp2_with fail
          obtain ⟨Nb, hNb⟩ : ∃ Nb, Nb = wr.heap.size := ⟨_, rfl⟩
          obtain ⟨w5, hw5⟩ : ∃ w5, w5 = wr.alloc (.cells #[.slice xA nx xc, .slice xD mx xd] 54) := ⟨_, rfl⟩
          have hbk : Bk w5 Nb 54 #[.slice xA nx xc, .slice xD mx xd] := by rw [hw5, hNb]; exact Bk.new wr _ _
          have b05 : Below wr.heap.size wr w5 := by rw [hw5]; exact Gw.alloc wr _
          rw [← hw5, ← hNb]
          have HS5 : Hid (PuAt w5 B s g v ((List.replicate b 0#64 ++ (ns.take k).flatMap (nodeW (placeL ns b))) ++ halfW (placeL ns b) x 0 ++ (ns.drop (k + 1)).flatMap blankW) b need need S (.slice (some ⟨q, 0, none⟩) NN cq) (plI ns b) ∧ Below B w w5 ∧ Bk w5 Nb 54 #[.slice xA nx xc, .slice xD mx xd]) := Lib.hid ⟨H0.out.1.below b05, H0.out.2.trans (b05.mono H0.out.1.sp.mem.le), hbk⟩
          have HNb := Lib.hid (show S ≤ Nb from by rw [hNb]; exact H0.out.1.sz)
          clear hw5 hNb hbk b05 H0 hql hpc hc2 hc3 k1 kI
          obtain ⟨g0, g1⟩ := HS5.out.2.2.two
          have hNl := HS5.out.2.2.lt
          go_wp2_with fail
          clear g0 g1 hNl
          go_loopw [60] (fun x' W => ∃ j : Nat, x' = .int .i64 j ∧ j ≤ nx ∧ Hid (PuAt W B s g v ((List.replicate b 0#64 ++ (ns.take k).flatMap (nodeW (placeL ns b))) ++ halfW (placeL ns b) x j ++ (ns.drop (k + 1)).flatMap blankW) b need need S (.slice (some ⟨q, 0, none⟩) NN cq) (plI ns b) ∧ Below B w W ∧ Bk W Nb 54 #[.slice xA nx xc, .slice xD mx xd])) (fun x' _ => nx - (Go.RowKit.intOf x').toNat)
          case atStart => exact ⟨0, rfl, Nat.zero_le _, HS5⟩
          case round =>
            obtain ⟨j, rfl, hj, hS⟩ := hrel
            clear HS5
            have j0 : (0 : Int) ≤ (j : Int) := by omega
            obtain ⟨e1, e2, e3⟩ := hS.out
            by_cases hlj : j < nx
            · have j1 : (j : Int) < (nx : Int) := by omega
              have hjl : j < x.ps.length := by rw [← HY.out.1]; exact hlj
              obtain ⟨p, hp⟩ : ∃ p, p = x.ps[j] := ⟨_, rfl⟩
              obtain ⟨aq, haq, hpc⟩ : ∃ aq, xA = some aq ∧ wr.cell? (aq.add j) = some (.int .i64 p) := by
                obtain ⟨aq, e, _, h1⟩ := (HX.out.2.2.2.2.1.p.below e2) j hjl
                exact ⟨aq, HZ.out.1.trans e, by rw [hp]; exact h1⟩
              subst haq
              have hokp := HX.out.2.1 p (by rw [hp]; exact List.getElem_mem hjl)
              obtain ⟨z, hz1, hz2, hz3, hz4⟩ := set_place ns b p hokp
              have hzc := e1.row.cell hz2
              rw [hz3] at hzc
              unfold iV at hzc
              obtain ⟨pn, hpn⟩ : ∃ pn, pn = p.toNat := ⟨_, rfl⟩
              have pI : p = (pn : Int) := by omega
              rw [← hpn] at hzc
              have hhd := half_head (placeL ns b) ns b k j HX.out.2.2.2.2.2.2.1
              have hlen := half_all_len (placeL ns b) ns b need k j HX.out.2.2.2.2.2.2.1 (by rw [← HX.out.1]; omega) HG.out.1
              rw [← HX.out.1] at hhd hlen
              rw [← HX.out.2.2.2.2.2.1] at hhd
              obtain ⟨o1, o2, o3, o4⟩ := headW_ok HX.out.2.2.1 HX.out.2.2.2.1
              have hroom : szG x ≤ need - a ∧ b ≤ a ∧ a < need := by
                have h1 := endL_take_le ns (k + 1) b
                rw [List.take_succ_eq_append_getElem HX.out.2.2.2.2.2.2.1, endL_snoc, ← HX.out.1, ← HX.out.2.2.2.2.2.1, ← HG.out.1] at h1
                have h2 := endL_ge (ns.take k) b
                rw [← HX.out.2.2.2.2.2.1] at h2
                have h3 : 1 ≤ szG x := by unfold szG; omega
                omega
              have hst := half_step (placeL ns b) x j hjl (List.replicate b 0#64 ++ (ns.take k).flatMap (nodeW (placeL ns b))) ((ns.drop (k + 1)).flatMap blankW)
              rw [done_pre, ← HX.out.2.2.2.2.2.1, ← hp] at hst
              have hset := hz4 wr B s g v _ need need e1.sp (by rw [hlen]; have := HG.out.2.1; omega) a j hroom.2.1 hroom.2.2 (by rw [hhd]; exact o1 _ hroom.1) (by rw [hhd, o3]; exact hjl) (Nat.le_of_eq HG.out.1.symm)
              rw [hst] at hset
              have HSt := Lib.hid hset
              have H1 := Lib.hid (And.intro e1 (And.intro e2 e3))
              subst pI
              have pN : (pn : Int) < (NN : Int) := by
                have h1 := hz1
                have := HX.out.2.2.2.2.2.2.2.2
                have := HG.out.2.2.2.2.1
                omega
              obtain ⟨g0, g1⟩ := e3.two
              have hNl := e3.lt
              clear hS e1 e2 e3 hjl hp hokp hz1 hz2 hz3 hz4 hpn hhd hlen o1 o2 o3 o4 hroom hst hset hj
              go_wp2_with fail
              refine Calls.mono HSt.out ?_
              rintro r w6 ⟨rfl, q6, t6, b6⟩
              have H6 := Lib.hid (And.intro (H1.out.1.two q6 t6) (And.intro (H1.out.2.1.trans b6) ((im_twokept t6).bk H1.out.2.2 (fun h => by
                have h1 := HNb.out
                have h2 := H1.out.1.ss
                rcases h with h | h
                · omega
                · have := H1.out.1.vs _ h.symm; omega))))
              clear q6 t6 b6 hzc hpc g0 g1 hNl H1 HSt
              go_wp2_with fail
              go_roundw
              case rel => exact ⟨j + 1, by go_num, by omega, H6⟩
              case measure => simp [Go.RowKit.intOf]; omega
            · have j1 : ¬ (j : Int) < (nx : Int) := by omega
              have hjn : j = x.ps.length := by have := HY.out.1; omega
              rw [hjn] at e1
              have hhd := half_head (placeL ns b) ns b k x.ps.length HX.out.2.2.2.2.2.2.1
              have hlen := half_all_len (placeL ns b) ns b need k x.ps.length HX.out.2.2.2.2.2.2.1 (by rw [← HX.out.1]; exact Nat.le_refl _) HG.out.1
              rw [← HX.out.1] at hhd hlen
              rw [← HX.out.2.2.2.2.2.1] at hhd
              obtain ⟨o1, o2, o3, o4⟩ := headW_ok HX.out.2.2.1 HX.out.2.2.2.1
              have hroom : szG x ≤ need - a ∧ b ≤ a ∧ a < need := by
                have h1 := endL_take_le ns (k + 1) b
                rw [List.take_succ_eq_append_getElem HX.out.2.2.2.2.2.2.1, endL_snoc, ← HX.out.1, ← HX.out.2.2.2.2.2.1, ← HG.out.1] at h1
                have h2 := endL_ge (ns.take k) b
                rw [← HX.out.2.2.2.2.2.1] at h2
                have h3 : 1 ≤ szG x := by unfold szG; omega
                omega
              have hda := half_data (placeL ns b) x (8 * (a + 1 + x.ps.length) + 0) (List.replicate b 0#64 ++ (ns.take k).flatMap (nodeW (placeL ns b))) ((ns.drop (k + 1)).flatMap blankW) (by rw [done_pre, ← HX.out.2.2.2.2.2.1, Nat.add_zero])
              have hnext := done_next (placeL ns b) ns b k HX.out.2.2.2.2.2.2.1
              rw [← HX.out.1] at hnext
              have hwr := fun (c : Nat) => write_ok wr B s g v _ b need need e1.sp (by rw [hlen]; have := HG.out.2.1; omega) a 0 x.D c x.bs hroom.2.1 hroom.2.2 (by rw [hhd]; exact o1 _ hroom.1) (by rw [hhd, o4]; omega) ((HX.out.2.2.2.2.1.b.below e2).more e1.sp.mem.le) (fun h0 y hy hv => by
                obtain ⟨y', hy', hlt, _⟩ := HX.out.2.2.2.2.1.b 0 h0
                rw [hy] at hy'
                injection hy' with hy'
                have h1 := (e1.sp.mem.row.lt _ hv.symm).1
                rw [hy'] at h1
                omega)
              simp only [hhd, o3, hda, hnext] at hwr
              simp only [← HY.out.2] at hwr
              simp only [← HZ.out.2] at hwr
              have HWr := Lib.hid (fun (c : Nat) => hwr c)
              have H1 := Lib.hid (And.intro e1 (And.intro e2 e3))
              obtain ⟨g0, g1⟩ := e3.two
              have hNl := e3.lt
              clear hS e1 e2 e3 hhd hlen o1 o2 o3 o4 hroom hda hnext hwr hj hjn
              go_wp2_with fail
              refine Calls.mono (HWr.out _) ?_
              rintro r w6 ⟨rfl, q6, t6, b6⟩
              have H6 := Lib.hid (And.intro (H1.out.1.two q6 t6) (H1.out.2.1.trans b6))
              clear q6 t6 b6 g0 g1 hNl H1 HWr
              go_wp2_with fail
              go_roundw
              case rel => exact ⟨k + 1, by go_num, by omega, H6⟩
              case measure => simp [Go.RowKit.intOf]; omega
        · have p1 : ¬ (k : Int) < (N : Int) := by omega
          have hkN : k = ns.length := by have := HG.out.2.2.2.2.1; omega
          obtain ⟨e1, e2⟩ := hS.out
          rw [hkN, done_all] at e1
          have HF := Lib.hid (show PutP w B s g v ns b need (.returned (.tuple #[.slice (some ⟨q, 0, none⟩) (N + 1) cq, .int .i64 0])) wr from ⟨_, rfl, by rw [← HG.out.2.2.2.2.2.1]; exact e1, e2⟩)
          clear e1 e2 hS hk hkN
          go_wp2_with fail
          rw [HE.out]
          exact HF.out
end Go.Proofs.Ytkkjnahjmomjgaa
