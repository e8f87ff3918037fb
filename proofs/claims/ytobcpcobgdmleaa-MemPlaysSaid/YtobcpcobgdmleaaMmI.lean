/- mem: Move. Conditions: lengths. -/
import Derived.Test.YtobcpcobgdmleaaMmH
namespace Go.Proofs.Ytobcpcobgdmleaa
set_option linter.unusedVariables false
set_option linter.unusedSimpArgs false
open Go.RowKit
def moveM {α : Type} (ws : List α) (to fr n : Nat) : List α := ws.take to ++ ((ws.drop fr).take n ++ ws.drop (to + n))
theorem moveM_len {α : Type} (ws : List α) (to fr n : Nat) (h1 : to + n ≤ ws.length) (h2 : fr + n ≤ ws.length) : (moveM ws to fr n).length = ws.length := by unfold moveM; simp; omega
theorem addr_at (q k : Nat) : ((⟨q, 0, none⟩ : Addr).add k) = ⟨q, k, none⟩ := by unfold Addr.add; split <;> simp_all
section
variable {P : Program} {α : Type} {f : α → Value} {t e : TypeId} {w : World} {ops : Array Oper} {rest : List Oper} {o : Oper} {a : Act} {Q : Exit → Act → World → Prop}
/-- 'copy(l[to:to+n], l[from:from+n])' in one row of the call's own. -/
theorem wp_move (hu : P.underlying t = some (.slice e)) (hsz : (P.info? e).map (·.size) = some 1) (hf : ∀ x, (f x).oneCell' = true) (hgd : o.guard = none) (d s : Operand)
    (ho : o.op = .call { callee := .builtin .copy, args := #[d, s], argTypes := #[t, t] })
    (base q N c to fr n : Nat) (xs : List α) (hto : to + n ≤ xs.length) (hfr : fr + n ≤ xs.length) (hown : Ow f e w base (.slice (some ⟨q, 0, none⟩) N c) xs)
    (hd : a.eval d = .slice (cutA (some ⟨q, 0, none⟩) c to) n (c - to)) (hs : a.eval s = .slice (cutA (some ⟨q, 0, none⟩) c fr) n (c - fr))
    (h : ∀ w', Ow f e w' base (.slice (some ⟨q, 0, none⟩) N c) (moveM xs to fr n) → w.grownBy w' (some q) → wpList P ops Q rest (a.put o.dst (goInt n)) w') : wpList P ops Q (o :: rest) a w := by
  rcases Nat.eq_zero_or_pos n with h0 | hp
  · subst h0
    refine wpList_copy_nothing hgd d s t t ho e hu hsz _ _ 0 (c - to) 0 (c - fr) hd hs (by simp) (h w ?_ (grown_refl _ _))
    unfold moveM
    simpa using hown
  · obtain ⟨hl, h2⟩ := hown
    rcases h2 with ⟨e1, _⟩ | ⟨g', cap', cur, e1, hg, hh, hnc, hcm, hcs, htk⟩
    · cases e1
    · injection e1 with e1 e2 e3
      injection e1 with e1
      injection e1 with e1
      subst e1
      subst e3
      have hcs' : cur.size = c := by omega
      have hto' : c ≠ to := by omega
      have hfr' : c ≠ fr := by omega
      have ed : cutA (some ⟨q, 0, none⟩) c to = some ⟨q, to, none⟩ := by unfold cutA; rw [if_neg hto']; show some ((⟨q, 0, none⟩ : Addr).add to) = _; rw [addr_at]
      have es : cutA (some ⟨q, 0, none⟩) c fr = some ⟨q, fr, none⟩ := by unfold cutA; rw [if_neg hfr']; show some ((⟨q, 0, none⟩ : Addr).add fr) = _; rw [addr_at]
      rw [ed] at hd
      rw [es] at hs
      rw [Nat.mul_one] at htk
      obtain ⟨R, hR⟩ : ∃ R, cur.toList = xs.map f ++ R := ⟨cur.toList.drop xs.length, by rw [← htk, List.take_append_drop]⟩
      have hlen : (((xs.drop fr).take n).map f).length = n := by simp; omega
      have hsrc : ∀ j v, (((xs.drop fr).take n).map f)[j]? = some v → w.cell? ((⟨q, fr, none⟩ : Addr).add j) = some v := by
        intro j v hv
        have hj : j < n := by
          have := (List.getElem?_eq_some_iff.1 hv).1
          omega
        have ea : ((⟨q, fr, none⟩ : Addr).add j) = ⟨q, fr + j, none⟩ := by unfold Addr.add; split <;> simp_all
        rw [ea, cell_of_row w q (fr + j) cur e (0, 0) hh, ← Array.getElem?_toList, hR, List.getElem?_append_left (by simp; omega), ← hv]
        rw [List.getElem?_map, List.getElem?_map, List.getElem?_take_of_lt hj, List.getElem?_drop]
      refine wpList_copy_own hgd d s t t ho e hu hsz q to n (c - to) ⟨q, fr, none⟩ n (c - fr) hd hs cur e hh (((xs.drop fr).take n).map f) (by rw [hlen]; simp) hsrc (by rw [hlen]; omega) (by intro u hu'; rw [List.mem_map] at hu'; obtain ⟨x, _, rfl⟩ := hu'; exact hf x) ?_
      rw [hlen]
      have hnew : cur.toList.take to ++ (((xs.drop fr).take n).map f ++ cur.toList.drop (to + n)) = (moveM xs to fr n).map f ++ R := by
        rw [hR, List.take_append_of_le_length (by simp; omega), List.drop_append_of_le_length (by simp; omega)]
        unfold moveM
        simp [List.map_take, List.map_drop]
      rw [hnew]
      have hml := moveM_len xs to fr n hto hfr
      refine h _ ⟨by simp, .inr ⟨q, c, ((moveM xs to fr n).map f ++ R).toArray, by rw [hml, e2], hg, setRow_heap w q cur _ e _ hh, by rw [hml]; exact hnc, hcm, ?_, ?_⟩⟩ ⟨rfl, rfl, rfl, by simp [World.setRow], fun k _ hne => setRow_other w q k _ (fun e => hne (by rw [e]))⟩
      · have hs2 : cur.toList.length = (xs.map f ++ R).length := by rw [hR]
        simp [hml] at hs2 ⊢
        omega
      · rw [Nat.mul_one, hml]
        simp [hml]
end
theorem cut_eq (q c k : Nat) : (if c = k then some (⟨q, 0, none⟩ : Addr) else some ⟨q, k, none⟩) = cutA (some ⟨q, 0, none⟩) c k := by
  unfold cutA
  show _ = if c = k then some (⟨q, 0, none⟩ : Addr) else some ((⟨q, 0, none⟩ : Addr).add k)
  rw [addr_at]
attribute [local go_sem high] sliced_cut
set_option maxHeartbeats 400000
set_option maxRecDepth 100000
theorem mv_reg (Q : Exit → Act → World → Prop) (a0 : Act) (w : World) (g q N c to te fr fe n : Nat) (hb : Bk w g 57 #[.slice (some ⟨q, 0, none⟩) N c]) (t1 : (te : Int) ≤ (c : Int)) (t2 : (fe : Int) ≤ (c : Int)) (t3 : (c : Int) ≤ 9223372036854775807) (e1 : (to : Int) + (n : Int) = (te : Int)) (e2 : (fr : Int) + (n : Int) = (fe : Int)) (g1 : (to : Int) ≤ (te : Int)) (g2 : (fr : Int) ≤ (fe : Int)) (g3 : te - to = n) (g4 : fe - fr = n) (g5 : to ≤ te) (g6 : fr ≤ fe) (hsz : a0.tmps.size = 42) (sl0 : a0.tmps.getD 0 undef = .pointer (some ⟨g, 0, none⟩)) (sl1 : a0.tmps.getD 1 undef = .int .i64 to) (sl2 : a0.tmps.getD 2 undef = .int .i64 fr) (sl3 : a0.tmps.getD 3 undef = .int .i64 n)
    (fin : ∀ (vals : Nat → Value) (w1 : World), Below w.heap.size w w1 → (IsV (.slice (cutA (some ⟨q, 0, none⟩) c to) n (c - to))) (vals 8) w1 → (IsV (.slice (cutA (some ⟨q, 0, none⟩) c fr) n (c - fr))) (vals 17) w1 → wpList Try.prog #[{ dst := some 41, op := Go.Op.call { callee := Go.Callee.builtin Go.Builtin.copy, args := #[Go.Operand.tmp 31, Go.Operand.tmp 40], argTypes := #[22, 22] }, type := 3, pos := "", after := #[], guard := none }] Q [{ dst := some 41, op := Go.Op.call { callee := Go.Callee.builtin Go.Builtin.copy, args := #[Go.Operand.tmp 31, Go.Operand.tmp 40], argTypes := #[22, 22] }, type := 3, pos := "", after := #[], guard := none }] (putD vals [23, 24, 25, 26, 27, 28, 29, 30, 31, 32, 33, 34, 35, 36, 37, 38, 39, 40] 0 a0) w1) :
    (Code.region 3 (regIn Try.f14 3) true).wp Try.prog Q a0 w := by
  refine region_by_tail (m := 18) (G := fun w w1 => Below w.heap.size w w1) [IsV (.pointer (some ⟨g, 0, none⟩)),
    IsV (.pointer (some ⟨g, 0, none⟩)),
    IsV (.pointer (some ⟨g, 0, none⟩)),
    IsV (.slice (some ⟨q, 0, none⟩) N c),
    IsV (.int .i64 to),
    IsV (.int .i64 to),
    IsV (.int .i64 n),
    IsV (.int .i64 te),
    IsV (.slice (cutA (some ⟨q, 0, none⟩) c to) n (c - to)),
    IsV (.pointer (some ⟨g, 0, none⟩)),
    IsV (.pointer (some ⟨g, 0, none⟩)),
    IsV (.pointer (some ⟨g, 0, none⟩)),
    IsV (.slice (some ⟨q, 0, none⟩) N c),
    IsV (.int .i64 fr),
    IsV (.int .i64 fr),
    IsV (.int .i64 n),
    IsV (.int .i64 fe),
    IsV (.slice (cutA (some ⟨q, 0, none⟩) c fr) n (c - fr))]
    [23, 24, 25, 26, 27, 28, 29, 30, 31, 32, 33, 34, 35, 36, 37, 38, 39, 40] (by kernel_rfl) (Gw.drew _) Gw.trans (by rw [hsz]; kernel_rfl) (by kernel_rfl) ?_ ?_ ?_
  · intro f hf
    simp only [List.mem_cons, List.not_mem_nil, or_false] at hf
    rcases hf with rfl | rfl | rfl | rfl | rfl | rfl | rfl | rfl | rfl | rfl | rfl | rfl | rfl | rfl | rfl | rfl | rfl | rfl <;> intro v a b h g <;> first | exact IsV.mono h
  · refine ⟨?_, ?_, ?_, ?_, ?_, ?_, ?_, ?_, ?_, ?_, ?_, ?_, ?_, ?_, ?_, ?_, ?_, ?_, trivial⟩
    · exact owes_mv 0 (by kernel_rfl) (by kernel_rfl) (by kernel_rfl) sl0 (fun _ => rfl)
    · refine owes_v (Go.Op.nilCheck (Go.Operand.tmp 23)) 0 [0] (by kernel_rfl) (by kernel_rfl) (by kernel_rfl) rfl fun vals w1 ρ hG hF hρ hcst hfun => ?_
      have e23 : ρ (.tmp 23) = .pointer (some ⟨g, 0, none⟩) := ((hρ 23).trans (slotJ [0] (by rw [hsz]; decide) (by kernel_rfl))).trans (hF 0 (by decide))
      clear hρ hF hcst hfun sl0 sl1 sl2 sl3 fin
      exact opv_val (by go_simp <;> rfl) ⟨gw_self _, rfl⟩
    · refine owes_v (Go.Op.fieldAddr 57 (Go.Operand.tmp 24) 0) 0 [1] (by kernel_rfl) (by kernel_rfl) (by kernel_rfl) rfl fun vals w1 ρ hG hF hρ hcst hfun => ?_
      have e24 : ρ (.tmp 24) = .pointer (some ⟨g, 0, none⟩) := ((hρ 24).trans (slotJ [1] (by rw [hsz]; decide) (by kernel_rfl))).trans (hF 1 (by decide))
      clear hρ hF hcst hfun sl0 sl1 sl2 sl3 fin
      exact opv_val (by go_simp <;> rfl) ⟨gw_self _, rfl⟩
    · refine owes_v (Go.Op.load 22 (Go.Operand.tmp 25)) 22 [2] (by kernel_rfl) (by kernel_rfl) (by kernel_rfl) rfl fun vals w1 ρ hG hF hρ hcst hfun => ?_
      have e25 : ρ (.tmp 25) = .pointer (some ⟨g, 0, none⟩) := ((hρ 25).trans (slotJ [2] (by rw [hsz]; decide) (by kernel_rfl))).trans (hF 2 (by decide))
      have c0 := (hb.below hG hb.lt).cell 0
      clear hρ hF hcst hfun sl0 sl1 sl2 sl3 fin
      exact opv_val (by go_simp <;> rfl) ⟨gw_self _, rfl⟩
    · exact owes_mv 1 (by kernel_rfl) (by kernel_rfl) (by kernel_rfl) sl1 (fun _ => rfl)
    · exact owes_mv 1 (by kernel_rfl) (by kernel_rfl) (by kernel_rfl) sl1 (fun _ => rfl)
    · exact owes_mv 3 (by kernel_rfl) (by kernel_rfl) (by kernel_rfl) sl3 (fun _ => rfl)
    · refine owes_v (Go.Op.binOp Go.BinOp.add 3 (Go.Operand.tmp 28) (Go.Operand.tmp 29) 3) 3 [5, 6] (by kernel_rfl) (by kernel_rfl) (by kernel_rfl) rfl fun vals w1 ρ hG hF hρ hcst hfun => ?_
      have e28 : ρ (.tmp 28) = .int .i64 to := ((hρ 28).trans (slotJ [5, 6] (by rw [hsz]; decide) (by kernel_rfl))).trans (hF 5 (by decide))
      have e29 : ρ (.tmp 29) = .int .i64 n := ((hρ 29).trans (slotJ [5, 6] (by rw [hsz]; decide) (by kernel_rfl))).trans (hF 6 (by decide))
      have kw0 : IntKind.i64.wrap ((te : Int)) = (te : Int) := wrapIn (by omega) (by omega)
      clear hρ hF hcst hfun sl0 sl1 sl2 sl3 fin
      exact opv_val (by go_simp <;> rfl) ⟨gw_self _, rfl⟩
    · refine owes_v (Go.Op.slice 22 (Go.Operand.tmp 26) (some (Go.Operand.tmp 27)) (some (Go.Operand.tmp 30)) none) 22 [3, 4, 7] (by kernel_rfl) (by kernel_rfl) (by kernel_rfl) rfl fun vals w1 ρ hG hF hρ hcst hfun => ?_
      have e26 : ρ (.tmp 26) = .slice (some ⟨q, 0, none⟩) N c := ((hρ 26).trans (slotJ [3, 4, 7] (by rw [hsz]; decide) (by kernel_rfl))).trans (hF 3 (by decide))
      have e27 : ρ (.tmp 27) = .int .i64 to := ((hρ 27).trans (slotJ [3, 4, 7] (by rw [hsz]; decide) (by kernel_rfl))).trans (hF 4 (by decide))
      have e30 : ρ (.tmp 30) = .int .i64 te := ((hρ 30).trans (slotJ [3, 4, 7] (by rw [hsz]; decide) (by kernel_rfl))).trans (hF 7 (by decide))
      clear hρ hF hcst hfun sl0 sl1 sl2 sl3 fin
      exact opv_val (by go_simp <;> first | rfl | exact cut_eq _ _ _) ⟨gw_self _, rfl⟩
    · exact owes_mv 0 (by kernel_rfl) (by kernel_rfl) (by kernel_rfl) sl0 (fun _ => rfl)
    · refine owes_v (Go.Op.nilCheck (Go.Operand.tmp 32)) 0 [9] (by kernel_rfl) (by kernel_rfl) (by kernel_rfl) rfl fun vals w1 ρ hG hF hρ hcst hfun => ?_
      have e32 : ρ (.tmp 32) = .pointer (some ⟨g, 0, none⟩) := ((hρ 32).trans (slotJ [9] (by rw [hsz]; decide) (by kernel_rfl))).trans (hF 9 (by decide))
      clear hρ hF hcst hfun sl0 sl1 sl2 sl3 fin
      exact opv_val (by go_simp <;> rfl) ⟨gw_self _, rfl⟩
    · refine owes_v (Go.Op.fieldAddr 57 (Go.Operand.tmp 33) 0) 0 [10] (by kernel_rfl) (by kernel_rfl) (by kernel_rfl) rfl fun vals w1 ρ hG hF hρ hcst hfun => ?_
      have e33 : ρ (.tmp 33) = .pointer (some ⟨g, 0, none⟩) := ((hρ 33).trans (slotJ [10] (by rw [hsz]; decide) (by kernel_rfl))).trans (hF 10 (by decide))
      clear hρ hF hcst hfun sl0 sl1 sl2 sl3 fin
      exact opv_val (by go_simp <;> rfl) ⟨gw_self _, rfl⟩
    · refine owes_v (Go.Op.load 22 (Go.Operand.tmp 34)) 22 [11] (by kernel_rfl) (by kernel_rfl) (by kernel_rfl) rfl fun vals w1 ρ hG hF hρ hcst hfun => ?_
      have e34 : ρ (.tmp 34) = .pointer (some ⟨g, 0, none⟩) := ((hρ 34).trans (slotJ [11] (by rw [hsz]; decide) (by kernel_rfl))).trans (hF 11 (by decide))
      have c0 := (hb.below hG hb.lt).cell 0
      clear hρ hF hcst hfun sl0 sl1 sl2 sl3 fin
      exact opv_val (by go_simp <;> rfl) ⟨gw_self _, rfl⟩
    · exact owes_mv 2 (by kernel_rfl) (by kernel_rfl) (by kernel_rfl) sl2 (fun _ => rfl)
    · exact owes_mv 2 (by kernel_rfl) (by kernel_rfl) (by kernel_rfl) sl2 (fun _ => rfl)
    · exact owes_mv 3 (by kernel_rfl) (by kernel_rfl) (by kernel_rfl) sl3 (fun _ => rfl)
    · refine owes_v (Go.Op.binOp Go.BinOp.add 3 (Go.Operand.tmp 37) (Go.Operand.tmp 38) 3) 3 [14, 15] (by kernel_rfl) (by kernel_rfl) (by kernel_rfl) rfl fun vals w1 ρ hG hF hρ hcst hfun => ?_
      have e37 : ρ (.tmp 37) = .int .i64 fr := ((hρ 37).trans (slotJ [14, 15] (by rw [hsz]; decide) (by kernel_rfl))).trans (hF 14 (by decide))
      have e38 : ρ (.tmp 38) = .int .i64 n := ((hρ 38).trans (slotJ [14, 15] (by rw [hsz]; decide) (by kernel_rfl))).trans (hF 15 (by decide))
      have kw0 : IntKind.i64.wrap ((fe : Int)) = (fe : Int) := wrapIn (by omega) (by omega)
      clear hρ hF hcst hfun sl0 sl1 sl2 sl3 fin
      exact opv_val (by go_simp <;> rfl) ⟨gw_self _, rfl⟩
    · refine owes_v (Go.Op.slice 22 (Go.Operand.tmp 35) (some (Go.Operand.tmp 36)) (some (Go.Operand.tmp 39)) none) 22 [12, 13, 16] (by kernel_rfl) (by kernel_rfl) (by kernel_rfl) rfl fun vals w1 ρ hG hF hρ hcst hfun => ?_
      have e35 : ρ (.tmp 35) = .slice (some ⟨q, 0, none⟩) N c := ((hρ 35).trans (slotJ [12, 13, 16] (by rw [hsz]; decide) (by kernel_rfl))).trans (hF 12 (by decide))
      have e36 : ρ (.tmp 36) = .int .i64 fr := ((hρ 36).trans (slotJ [12, 13, 16] (by rw [hsz]; decide) (by kernel_rfl))).trans (hF 13 (by decide))
      have e39 : ρ (.tmp 39) = .int .i64 fe := ((hρ 39).trans (slotJ [12, 13, 16] (by rw [hsz]; decide) (by kernel_rfl))).trans (hF 16 (by decide))
      clear hρ hF hcst hfun sl0 sl1 sl2 sl3 fin
      exact opv_val (by go_simp <;> first | rfl | exact cut_eq _ _ _) ⟨gw_self _, rfl⟩
  · intro vals w1 hG hF
    exact last_list (by kernel_rfl) (by kernel_rfl) (by kernel_rfl) (fin vals w1 hG (hF 8 (by decide +kernel)) (hF 17 (by decide +kernel)))
theorem mv_reg0 (Q : Exit → Act → World → Prop) (a0 : Act) (w : World) (g : Nat) (hb : Bk w g 57 #[.slice none 0 0]) (hsz : a0.tmps.size = 42) (sl0 : a0.tmps.getD 0 undef = .pointer (some ⟨g, 0, none⟩)) (sl1 : a0.tmps.getD 1 undef = .int .i64 0) (sl2 : a0.tmps.getD 2 undef = .int .i64 0) (sl3 : a0.tmps.getD 3 undef = .int .i64 0)
    (fin : ∀ (vals : Nat → Value) (w1 : World), Below w.heap.size w w1 → (IsV (.slice none 0 0)) (vals 8) w1 → (IsV (.slice none 0 0)) (vals 17) w1 → wpList Try.prog #[{ dst := some 41, op := Go.Op.call { callee := Go.Callee.builtin Go.Builtin.copy, args := #[Go.Operand.tmp 31, Go.Operand.tmp 40], argTypes := #[22, 22] }, type := 3, pos := "", after := #[], guard := none }] Q [{ dst := some 41, op := Go.Op.call { callee := Go.Callee.builtin Go.Builtin.copy, args := #[Go.Operand.tmp 31, Go.Operand.tmp 40], argTypes := #[22, 22] }, type := 3, pos := "", after := #[], guard := none }] (putD vals [23, 24, 25, 26, 27, 28, 29, 30, 31, 32, 33, 34, 35, 36, 37, 38, 39, 40] 0 a0) w1) :
    (Code.region 3 (regIn Try.f14 3) true).wp Try.prog Q a0 w := by
  refine region_by_tail (m := 18) (G := fun w w1 => Below w.heap.size w w1) [IsV (.pointer (some ⟨g, 0, none⟩)),
    IsV (.pointer (some ⟨g, 0, none⟩)),
    IsV (.pointer (some ⟨g, 0, none⟩)),
    IsV (.slice none 0 0),
    IsV (.int .i64 0),
    IsV (.int .i64 0),
    IsV (.int .i64 0),
    IsV (.int .i64 0),
    IsV (.slice none 0 0),
    IsV (.pointer (some ⟨g, 0, none⟩)),
    IsV (.pointer (some ⟨g, 0, none⟩)),
    IsV (.pointer (some ⟨g, 0, none⟩)),
    IsV (.slice none 0 0),
    IsV (.int .i64 0),
    IsV (.int .i64 0),
    IsV (.int .i64 0),
    IsV (.int .i64 0),
    IsV (.slice none 0 0)]
    [23, 24, 25, 26, 27, 28, 29, 30, 31, 32, 33, 34, 35, 36, 37, 38, 39, 40] (by kernel_rfl) (Gw.drew _) Gw.trans (by rw [hsz]; kernel_rfl) (by kernel_rfl) ?_ ?_ ?_
  · intro f hf
    simp only [List.mem_cons, List.not_mem_nil, or_false] at hf
    rcases hf with rfl | rfl | rfl | rfl | rfl | rfl | rfl | rfl | rfl | rfl | rfl | rfl | rfl | rfl | rfl | rfl | rfl | rfl <;> intro v a b h g <;> first | exact IsV.mono h
  · refine ⟨?_, ?_, ?_, ?_, ?_, ?_, ?_, ?_, ?_, ?_, ?_, ?_, ?_, ?_, ?_, ?_, ?_, ?_, trivial⟩
    · exact owes_mv 0 (by kernel_rfl) (by kernel_rfl) (by kernel_rfl) sl0 (fun _ => rfl)
    · refine owes_v (Go.Op.nilCheck (Go.Operand.tmp 23)) 0 [0] (by kernel_rfl) (by kernel_rfl) (by kernel_rfl) rfl fun vals w1 ρ hG hF hρ hcst hfun => ?_
      have e23 : ρ (.tmp 23) = .pointer (some ⟨g, 0, none⟩) := ((hρ 23).trans (slotJ [0] (by rw [hsz]; decide) (by kernel_rfl))).trans (hF 0 (by decide))
      clear hρ hF hcst hfun sl0 sl1 sl2 sl3 fin
      exact opv_val (by go_simp <;> rfl) ⟨gw_self _, rfl⟩
    · refine owes_v (Go.Op.fieldAddr 57 (Go.Operand.tmp 24) 0) 0 [1] (by kernel_rfl) (by kernel_rfl) (by kernel_rfl) rfl fun vals w1 ρ hG hF hρ hcst hfun => ?_
      have e24 : ρ (.tmp 24) = .pointer (some ⟨g, 0, none⟩) := ((hρ 24).trans (slotJ [1] (by rw [hsz]; decide) (by kernel_rfl))).trans (hF 1 (by decide))
      clear hρ hF hcst hfun sl0 sl1 sl2 sl3 fin
      exact opv_val (by go_simp <;> rfl) ⟨gw_self _, rfl⟩
    · refine owes_v (Go.Op.load 22 (Go.Operand.tmp 25)) 22 [2] (by kernel_rfl) (by kernel_rfl) (by kernel_rfl) rfl fun vals w1 ρ hG hF hρ hcst hfun => ?_
      have e25 : ρ (.tmp 25) = .pointer (some ⟨g, 0, none⟩) := ((hρ 25).trans (slotJ [2] (by rw [hsz]; decide) (by kernel_rfl))).trans (hF 2 (by decide))
      have c0 := (hb.below hG hb.lt).cell 0
      clear hρ hF hcst hfun sl0 sl1 sl2 sl3 fin
      exact opv_val (by go_simp <;> rfl) ⟨gw_self _, rfl⟩
    · exact owes_mv 1 (by kernel_rfl) (by kernel_rfl) (by kernel_rfl) sl1 (fun _ => rfl)
    · exact owes_mv 1 (by kernel_rfl) (by kernel_rfl) (by kernel_rfl) sl1 (fun _ => rfl)
    · exact owes_mv 3 (by kernel_rfl) (by kernel_rfl) (by kernel_rfl) sl3 (fun _ => rfl)
    · refine owes_v (Go.Op.binOp Go.BinOp.add 3 (Go.Operand.tmp 28) (Go.Operand.tmp 29) 3) 3 [5, 6] (by kernel_rfl) (by kernel_rfl) (by kernel_rfl) rfl fun vals w1 ρ hG hF hρ hcst hfun => ?_
      have e28 : ρ (.tmp 28) = .int .i64 0 := ((hρ 28).trans (slotJ [5, 6] (by rw [hsz]; decide) (by kernel_rfl))).trans (hF 5 (by decide))
      have e29 : ρ (.tmp 29) = .int .i64 0 := ((hρ 29).trans (slotJ [5, 6] (by rw [hsz]; decide) (by kernel_rfl))).trans (hF 6 (by decide))
      clear hρ hF hcst hfun sl0 sl1 sl2 sl3 fin
      exact opv_val (by go_simp <;> rfl) ⟨gw_self _, rfl⟩
    · refine owes_v (Go.Op.slice 22 (Go.Operand.tmp 26) (some (Go.Operand.tmp 27)) (some (Go.Operand.tmp 30)) none) 22 [3, 4, 7] (by kernel_rfl) (by kernel_rfl) (by kernel_rfl) rfl fun vals w1 ρ hG hF hρ hcst hfun => ?_
      have e26 : ρ (.tmp 26) = .slice none 0 0 := ((hρ 26).trans (slotJ [3, 4, 7] (by rw [hsz]; decide) (by kernel_rfl))).trans (hF 3 (by decide))
      have e27 : ρ (.tmp 27) = .int .i64 0 := ((hρ 27).trans (slotJ [3, 4, 7] (by rw [hsz]; decide) (by kernel_rfl))).trans (hF 4 (by decide))
      have e30 : ρ (.tmp 30) = .int .i64 0 := ((hρ 30).trans (slotJ [3, 4, 7] (by rw [hsz]; decide) (by kernel_rfl))).trans (hF 7 (by decide))
      clear hρ hF hcst hfun sl0 sl1 sl2 sl3 fin
      exact opv_val (by go_simp <;> rfl) ⟨gw_self _, rfl⟩
    · exact owes_mv 0 (by kernel_rfl) (by kernel_rfl) (by kernel_rfl) sl0 (fun _ => rfl)
    · refine owes_v (Go.Op.nilCheck (Go.Operand.tmp 32)) 0 [9] (by kernel_rfl) (by kernel_rfl) (by kernel_rfl) rfl fun vals w1 ρ hG hF hρ hcst hfun => ?_
      have e32 : ρ (.tmp 32) = .pointer (some ⟨g, 0, none⟩) := ((hρ 32).trans (slotJ [9] (by rw [hsz]; decide) (by kernel_rfl))).trans (hF 9 (by decide))
      clear hρ hF hcst hfun sl0 sl1 sl2 sl3 fin
      exact opv_val (by go_simp <;> rfl) ⟨gw_self _, rfl⟩
    · refine owes_v (Go.Op.fieldAddr 57 (Go.Operand.tmp 33) 0) 0 [10] (by kernel_rfl) (by kernel_rfl) (by kernel_rfl) rfl fun vals w1 ρ hG hF hρ hcst hfun => ?_
      have e33 : ρ (.tmp 33) = .pointer (some ⟨g, 0, none⟩) := ((hρ 33).trans (slotJ [10] (by rw [hsz]; decide) (by kernel_rfl))).trans (hF 10 (by decide))
      clear hρ hF hcst hfun sl0 sl1 sl2 sl3 fin
      exact opv_val (by go_simp <;> rfl) ⟨gw_self _, rfl⟩
    · refine owes_v (Go.Op.load 22 (Go.Operand.tmp 34)) 22 [11] (by kernel_rfl) (by kernel_rfl) (by kernel_rfl) rfl fun vals w1 ρ hG hF hρ hcst hfun => ?_
      have e34 : ρ (.tmp 34) = .pointer (some ⟨g, 0, none⟩) := ((hρ 34).trans (slotJ [11] (by rw [hsz]; decide) (by kernel_rfl))).trans (hF 11 (by decide))
      have c0 := (hb.below hG hb.lt).cell 0
      clear hρ hF hcst hfun sl0 sl1 sl2 sl3 fin
      exact opv_val (by go_simp <;> rfl) ⟨gw_self _, rfl⟩
    · exact owes_mv 2 (by kernel_rfl) (by kernel_rfl) (by kernel_rfl) sl2 (fun _ => rfl)
    · exact owes_mv 2 (by kernel_rfl) (by kernel_rfl) (by kernel_rfl) sl2 (fun _ => rfl)
    · exact owes_mv 3 (by kernel_rfl) (by kernel_rfl) (by kernel_rfl) sl3 (fun _ => rfl)
    · refine owes_v (Go.Op.binOp Go.BinOp.add 3 (Go.Operand.tmp 37) (Go.Operand.tmp 38) 3) 3 [14, 15] (by kernel_rfl) (by kernel_rfl) (by kernel_rfl) rfl fun vals w1 ρ hG hF hρ hcst hfun => ?_
      have e37 : ρ (.tmp 37) = .int .i64 0 := ((hρ 37).trans (slotJ [14, 15] (by rw [hsz]; decide) (by kernel_rfl))).trans (hF 14 (by decide))
      have e38 : ρ (.tmp 38) = .int .i64 0 := ((hρ 38).trans (slotJ [14, 15] (by rw [hsz]; decide) (by kernel_rfl))).trans (hF 15 (by decide))
      clear hρ hF hcst hfun sl0 sl1 sl2 sl3 fin
      exact opv_val (by go_simp <;> rfl) ⟨gw_self _, rfl⟩
    · refine owes_v (Go.Op.slice 22 (Go.Operand.tmp 35) (some (Go.Operand.tmp 36)) (some (Go.Operand.tmp 39)) none) 22 [12, 13, 16] (by kernel_rfl) (by kernel_rfl) (by kernel_rfl) rfl fun vals w1 ρ hG hF hρ hcst hfun => ?_
      have e35 : ρ (.tmp 35) = .slice none 0 0 := ((hρ 35).trans (slotJ [12, 13, 16] (by rw [hsz]; decide) (by kernel_rfl))).trans (hF 12 (by decide))
      have e36 : ρ (.tmp 36) = .int .i64 0 := ((hρ 36).trans (slotJ [12, 13, 16] (by rw [hsz]; decide) (by kernel_rfl))).trans (hF 13 (by decide))
      have e39 : ρ (.tmp 39) = .int .i64 0 := ((hρ 39).trans (slotJ [12, 13, 16] (by rw [hsz]; decide) (by kernel_rfl))).trans (hF 16 (by decide))
      clear hρ hF hcst hfun sl0 sl1 sl2 sl3 fin
      exact opv_val (by go_simp <;> rfl) ⟨gw_self _, rfl⟩
  · intro vals w1 hG hF
    exact last_list (by kernel_rfl) (by kernel_rfl) (by kernel_rfl) (fin vals w1 hG (hF 8 (by decide +kernel)) (hF 17 (by decide +kernel)))
theorem move_in (w : World) (B g : Nat) (v : Value) (ws : List (BitVec 64)) (to fr n : Nat) (h1 : to + n ≤ ws.length) (h2 : fr + n ≤ ws.length) (hl : ws.length ≤ 100000) (h : MemAt w B g v ws) :
    Calls Try.prog 14 #[.pointer (some ⟨g, 0, none⟩), .int .i64 to, .int .i64 fr, .int .i64 n] w fun e w' => e = .returned (.int .i64 0) ∧ MemAt w' B g v (moveM ws to fr n) ∧ w.grownBy w' v.ownBlock := by
  have HL := Lib.hid (len_c w B g v ws h)
  have HI1 := Lib.hid (insideM_c w (ws.length : Int) to n (by omega) (by omega) (by omega) (by omega) (by omega) (by omega))
  have HI2 := Lib.hid (insideM_c w (ws.length : Int) fr n (by omega) (by omega) (by omega) (by omega) (by omega) (by omega))
  rw [show inM (ws.length : Int) (to : Int) n = true from by unfold inM; simp; omega] at HI1
  rw [show inM (ws.length : Int) (fr : Int) n = true from by unfold inM; simp; omega] at HI2
  have HM := Lib.hid h
  have HK := Lib.hid h.blk
  have H1 := Lib.hid h1
  have H2 := Lib.hid h2
  have HN := Lib.hid h.ne
  have HGE := Lib.hid h.ge
  rcases h.row.2 with ⟨rfl, hn⟩ | ⟨q, c, cur, rfl, hge, hh, hnc, hcm, _⟩
  · have h0 : to = 0 ∧ fr = 0 ∧ n = 0 := by omega
    obtain ⟨rfl, rfl, rfl⟩ := h0
    have hz : ws = [] := List.eq_nil_of_length_eq_zero hn
    subst hz
    clear h hl hn h1 h2
    go_enter Try.func14, Try.ntmps14
    go_wp2_with fail
    refine Calls.mono HL.out ?_
    rintro e w1 ⟨rfl, rfl⟩
    go_wp2_with fail
    refine Calls.mono HI1.out ?_
    rintro e w2 ⟨rfl, rfl⟩
    go_wp2_with fail
    refine Calls.mono HL.out ?_
    rintro e w3 ⟨rfl, rfl⟩
    go_wp2_with fail
    refine Calls.mono HI2.out ?_
    rintro e w4 ⟨rfl, rfl⟩
    go_wp2_with fail
    refine mv_reg0 _ _ _ g HK.out rfl rfl rfl rfl rfl ?_
    intro vals w3 hG h31 h40
    unfold IsV at h31 h40
    simp only [putD, Act.put, List.setIfInBounds_toArray, List.set_cons_zero, List.set_cons_succ, h31, h40]
    clear h31 h40
    refine wpList_copy_nothing rfl _ _ _ _ rfl 29 (by kernel_rfl) (by kernel_rfl) none none 0 0 0 0 rfl rfl rfl ?_
    go_wp2_with fail
    go_ret
    exact ⟨rfl, HM.out.below hG, grown_none hG _⟩
  · have q3 : (c : Int) ≤ 9223372036854775807 := by have := hcm; unfold maxLen at this; omega
    have q4 : ws.length ≤ c := hnc
    obtain ⟨te, ht⟩ : ∃ te, te = to + n := ⟨_, rfl⟩
    obtain ⟨fe, hf⟩ : ∃ fe, fe = fr + n := ⟨_, rfl⟩
    obtain ⟨N, hN⟩ : ∃ N, N = ws.length := ⟨_, rfl⟩
    have HX := Lib.hid (show (te : Int) ≤ (c : Int) ∧ (fe : Int) ≤ (c : Int) ∧ (to : Int) + (n : Int) = (te : Int) ∧ (fr : Int) + (n : Int) = (fe : Int) ∧ (to : Int) ≤ (te : Int) ∧ (fr : Int) ≤ (fe : Int) ∧ te - to = n ∧ fe - fr = n ∧ to ≤ te ∧ fr ≤ fe by omega)
    have HQ := Lib.hid q3
    rw [← hN] at HL HI1 HI2 HK
    have HNN := Lib.hid hN
    clear h hl hge hh hnc hcm q3 q4 ht hf hN h1 h2
    go_enter Try.func14, Try.ntmps14
    go_wp2_with fail
    refine Calls.mono HL.out ?_
    rintro e w1 ⟨rfl, rfl⟩
    go_wp2_with fail
    refine Calls.mono HI1.out ?_
    rintro e w2 ⟨rfl, rfl⟩
    go_wp2_with fail
    refine Calls.mono HL.out ?_
    rintro e w3 ⟨rfl, rfl⟩
    go_wp2_with fail
    refine Calls.mono HI2.out ?_
    rintro e w4 ⟨rfl, rfl⟩
    go_wp2_with fail
    obtain ⟨x1, x2, x3, x4, x5, x6, x7, x8, x9, x10⟩ := HX.out
    refine mv_reg _ _ _ g q N c to te fr fe n HK.out x1 x2 HQ.out x3 x4 x5 x6 x7 x8 x9 x10 rfl rfl rfl rfl rfl ?_
    clear x1 x2 x3 x4 x5 x6 x7 x8 x9 x10
    intro vals w5 hG h31 h40
    unfold IsV at h31 h40
    simp only [putD, Act.put, List.setIfInBounds_toArray, List.set_cons_zero, List.set_cons_succ, h31, h40]
    clear h31 h40
    have hm5 := HM.out.below hG
    refine wp_move (f := u64v) (e := 29) (by kernel_rfl) (by kernel_rfl) u64v_one rfl _ _ rfl B q _ c to fr n ws H1.out H2.out hm5.row rfl rfl ?_
    intro w6 ho hg
    have hne : some g ≠ some q := fun e => HN.out e.symm
    have HF := Lib.hid (show MemAt w6 B g (.slice (some ⟨q, 0, none⟩) ws.length c) (moveM ws to fr n) ∧ w4.grownBy w6 (some q) from ⟨⟨(hg.block g hm5.blk.lt hne).trans hm5.blk, HGE.out, ho, HN.out⟩, (grown_none hG _).trans hg⟩)
    clear ho hg hm5 hG
    go_wp2_with fail
    go_ret
    exact ⟨rfl, HF.out.1, HF.out.2⟩
end Go.Proofs.Ytobcpcobgdmleaa
