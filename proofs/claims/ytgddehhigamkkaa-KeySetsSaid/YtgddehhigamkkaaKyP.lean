/- loamref8.Sorted: the same keys in order. Conditions: at most 100 keys. -/
import Derived.Test.YtgddehhigamkkaaKyO
import Derived.Deep.CutRange
import Derived.Deep.CutBlock
namespace Go.Proofs.Ytgddehhigamkkaa
set_option linter.unusedVariables false
set_option linter.unusedSimpArgs false
open Go.RowKit Go.Maps
set_option maxHeartbeats 2000000
set_option maxRecDepth 100000
theorem kLe_cmp (a b : Int × Int) : kLe a b = true ↔ cmpN a b ≤ 0 := by
  rw [kLe_iff]
  unfold cmpN Lib.compareInt
  repeat' split
  all_goals omega
theorem kLe_gt {a b : Int × Int} (h : 0 < cmpN a b) : kLe b a = true := by
  rw [kLe_cmp, cmpN_neg]; omega
theorem sortN_insert {m out : List (Int × Int)} (h : out = sortN m) (p : Int × Int) (k : Nat) (h1 : ∀ t (ht : t < out.length), t < k → cmpN out[t] p ≤ 0) (h2 : ∀ t (ht : t < out.length), k ≤ t → 0 < cmpN out[t] p) : out.take k ++ [p] ++ out.drop k = sortN (m ++ [p]) := by
  have hs : out.Pairwise (fun a b => kLe a b = true) := by rw [h]; exact sortN_sorted m
  have hp : out.Perm m := by rw [h]; exact List.mergeSort_perm m kLe
  refine sortN_of ?_ ?_
  · have e1 : (out.take k ++ [p] ++ out.drop k).Perm (out.take k ++ out.drop k ++ [p]) := by
      rw [List.append_assoc, List.append_assoc]
      exact List.Perm.append_left _ (List.perm_append_comm)
    rw [List.take_append_drop] at e1
    exact e1.trans (hp.append_right _)
  · have ht : (out.take k).Pairwise (fun a b => kLe a b = true) := List.Pairwise.sublist (List.take_sublist k out) hs
    have hd : (out.drop k).Pairwise (fun a b => kLe a b = true) := List.Pairwise.sublist (List.drop_sublist k out) hs
    have e0 := hs
    rw [← List.take_append_drop k out, List.pairwise_append] at e0
    have a1 : ∀ a ∈ out.take k, kLe a p = true := fun a ha => by
      obtain ⟨t, ht2, rfl⟩ := List.mem_take_iff_getElem.1 ha
      exact (kLe_cmp _ _).2 (h1 t (by omega) (by omega))
    have a2 : ∀ b ∈ out.drop k, kLe p b = true := fun b hb => by
      obtain ⟨t, ht2, rfl⟩ := List.mem_drop_iff_getElem.1 hb
      exact kLe_gt (h2 _ (by omega) (by omega))
    rw [List.pairwise_append]
    refine ⟨?_, hd, ?_⟩
    · rw [List.pairwise_append]
      exact ⟨ht, by simp, fun a ha b hb => by rw [List.mem_singleton] at hb; subst hb; exact a1 a ha⟩
    · intro a ha b hb
      rcases List.mem_append.1 ha with h3 | h3
      · exact e0.2.2 a h3 b hb
      · rw [List.mem_singleton] at h3; subst h3; exact a2 b hb
theorem sortN_below {m out : List (Int × Int)} (h : out = sortN m) (p : Int × Int) (k : Nat) (hk : k < out.length) (h1 : cmpN out[k] p ≤ 0) : ∀ t (ht : t < out.length), t < k + 1 → cmpN out[t] p ≤ 0 := by
  intro t ht htk
  rcases (show t < k ∨ t = k by omega) with h3 | rfl
  · have hs : out.Pairwise (fun a b => kLe a b = true) := by rw [h]; exact sortN_sorted m
    have h4 := (List.pairwise_iff_getElem.1 hs) t k ht hk h3
    rw [← kLe_cmp] at h1 ⊢
    exact kLe_trans _ _ _ h4 h1
  · exact h1
theorem JR.mono {w : World} {b b' : Nat} {v : Value} {l : List (Int × Int)} (h : JR w b v l) (hb : b' ≤ b) : JR w b' v l := by
  obtain ⟨h1, h2⟩ := h
  refine ⟨h1, ?_⟩
  rcases h2 with h2 | ⟨g, cap, cur, e, hg, r⟩
  · exact .inl h2
  · exact .inr ⟨g, cap, cur, e, Nat.le_trans hb hg, r⟩
theorem rs60_reg (Q : Exit → Act → World → Prop) (a0 : Act) (w : World)  (hsz : a0.tmps.size = 49) (sl5 : a0.tmps.getD 5 undef = .int .i64 0)
    (fin : ∀ (vals : Nat → Value) (w1 : World), Below w.heap.size w w1 → (IsV (.bool false)) (vals 14) w1 → Q .normal (putD vals [15, 16, 17, 18, 19, 20, 21, 22, 23, 24, 25, 26, 27, 28, 29] 0 a0) w1) :
    (Code.region 6 (regIn Try.f20 6) true).wp Try.prog Q a0 w := by
  refine region_by (G := fun w w1 => Below w.heap.size w w1) [IsV (.int .i64 0),
    IsV (.bool false),
    IsV (.bool false),
    IsV undef,
    IsV undef,
    IsV undef,
    IsV undef,
    IsV undef,
    IsV undef,
    IsV undef,
    IsV undef,
    IsV undef,
    IsV undef,
    IsV undef,
    IsV (.bool false)]
    [15, 16, 17, 18, 19, 20, 21, 22, 23, 24, 25, 26, 27, 28, 29] (by kernel_rfl) (Gw.drew _) Gw.trans (by rw [hsz]; kernel_rfl) (by kernel_rfl) ?_ ?_ ?_
  · intro f hf
    simp only [List.mem_cons, List.not_mem_nil, or_false] at hf
    rcases hf with rfl | rfl | rfl | rfl | rfl | rfl | rfl | rfl | rfl | rfl | rfl | rfl | rfl | rfl | rfl <;> intro v a b h g <;> first | exact IsV.mono h
  · refine ⟨?_, ?_, ?_, ?_, ?_, ?_, ?_, ?_, ?_, ?_, ?_, ?_, ?_, ?_, ?_, trivial⟩
    · exact owes_mv 5 (by kernel_rfl) (by kernel_rfl) (by kernel_rfl) sl5 (fun _ => rfl)
    · refine owes_v (Go.Op.binOp Go.BinOp.gtr 3 (Go.Operand.tmp 15) (Go.Operand.const (Go.Value.int Go.IntKind.i64 0)) 3) 4 [0] (by kernel_rfl) (by kernel_rfl) (by kernel_rfl) rfl fun vals w1 ρ hG hF hρ hcst hfun => ?_
      have e15 : ρ (.tmp 15) = .int .i64 0 := ((hρ 15).trans (slotJ [0] (by rw [hsz]; decide) (by kernel_rfl))).trans (hF 0 (by decide))
      clear hρ hF hfun sl5 fin
      exact opv_val (by go_simp <;> rfl) ⟨gw_self _, rfl⟩
    · exact owes_mvj 1 16 (by kernel_rfl) (by kernel_rfl) (by kernel_rfl) (by kernel_rfl) (by rw [hsz]; decide) (fun v w h => h)
    · exact owes_no 2 false true (by decide) (by kernel_rfl) (by kernel_rfl) (fun _ _ h => h) (by rw [hsz]; kernel_rfl) (fun _ => rfl)
    · exact owes_no 2 false true (by decide) (by kernel_rfl) (by kernel_rfl) (fun _ _ h => h) (by rw [hsz]; kernel_rfl) (fun _ => rfl)
    · exact owes_no 2 false true (by decide) (by kernel_rfl) (by kernel_rfl) (fun _ _ h => h) (by rw [hsz]; kernel_rfl) (fun _ => rfl)
    · exact owes_no 2 false true (by decide) (by kernel_rfl) (by kernel_rfl) (fun _ _ h => h) (by rw [hsz]; kernel_rfl) (fun _ => rfl)
    · exact owes_no 2 false true (by decide) (by kernel_rfl) (by kernel_rfl) (fun _ _ h => h) (by rw [hsz]; kernel_rfl) (fun _ => rfl)
    · exact owes_no 2 false true (by decide) (by kernel_rfl) (by kernel_rfl) (fun _ _ h => h) (by rw [hsz]; kernel_rfl) (fun _ => rfl)
    · exact owes_no 2 false true (by decide) (by kernel_rfl) (by kernel_rfl) (fun _ _ h => h) (by rw [hsz]; kernel_rfl) (fun _ => rfl)
    · exact owes_no 2 false true (by decide) (by kernel_rfl) (by kernel_rfl) (fun _ _ h => h) (by rw [hsz]; kernel_rfl) (fun _ => rfl)
    · exact owes_no 2 false true (by decide) (by kernel_rfl) (by kernel_rfl) (fun _ _ h => h) (by rw [hsz]; kernel_rfl) (fun _ => rfl)
    · exact owes_no 2 false true (by decide) (by kernel_rfl) (by kernel_rfl) (fun _ _ h => h) (by rw [hsz]; kernel_rfl) (fun _ => rfl)
    · exact owes_no 2 false true (by decide) (by kernel_rfl) (by kernel_rfl) (fun _ _ h => h) (by rw [hsz]; kernel_rfl) (fun _ => rfl)
    · refine owes_v (Go.Op.pick (Go.Operand.tmp 17) (Go.Operand.tmp 28) (Go.Operand.const (Go.Value.bool false))) 4 [2, 13] (by kernel_rfl) (by kernel_rfl) (by kernel_rfl) rfl fun vals w1 ρ hG hF hρ hcst hfun => ?_
      have e17 : ρ (.tmp 17) = .bool false := ((hρ 17).trans (slotJ [2, 13] (by rw [hsz]; decide) (by kernel_rfl))).trans (hF 2 (by decide))
      have f28 : (IsV undef) (vals 13) w1 := hF 13 (by decide)
      have e28 : ρ (.tmp 28) = vals 13 := (hρ 28).trans (slotJ [2, 13] (by rw [hsz]; decide) (by kernel_rfl))
      clear hρ hF hfun sl5 fin
      exact opv_val (by go_simp <;> rfl) ⟨gw_self _, rfl⟩
  · intro vals w1 hG hF
    exact fin vals w1 hG (hF 14 (by decide +kernel))
theorem rs61_reg (Q : Exit → Act → World → Prop) (a0 : Act) (w : World) (q : Nat) (ad : Addr) (N c3 n cL i k : Nat) (x y u v c : Int) (r : Bool) (hq : q < w.heap.size) (hb : ad.block < w.heap.size) (c1 : w.cell? (ad.add (i * 2)) = some (.int .i64 x)) (c2 : w.cell? ⟨(ad.add (i * 2)).block, (ad.add (i * 2)).off + 1, none⟩ = some (.int .i64 y)) (d1 : w.cell? ⟨q, k * 2, none⟩ = some (.int .i64 u)) (d2 : w.cell? ⟨q, k * 2 + 1, none⟩ = some (.int .i64 v)) (hi1 : (0 : Int) ≤ (i : Int)) (hi2 : (i : Int) < (n : Int)) (hk1 : (0 : Int) ≤ (k : Int)) (hk2 : (k : Int) < (N : Int)) (hk3 : (k : Int) ≤ 10000) (hr : decide (0 < c) = r) (HC : Hid (∀ W, Calls Try.prog 10 #[.agg #[.int .i64 u, .int .i64 v], .agg #[.int .i64 x, .int .i64 y]] W fun e w' => e = .returned (.int .i64 c) ∧ Below W.heap.size W w')) (hsz : a0.tmps.size = 49) (sl0 : a0.tmps.getD 0 undef = .slice (some ad) n cL) (sl3 : a0.tmps.getD 3 undef = .slice (some ⟨q, 0, none⟩) N c3) (sl4 : a0.tmps.getD 4 undef = .int .i64 i) (sl5 : a0.tmps.getD 5 undef = .int .i64 ((k : Int) + 1))
    (fin : ∀ (vals : Nat → Value) (w1 : World), Below w.heap.size w w1 → (IsV (.bool r)) (vals 14) w1 → Q .normal (putD vals [15, 16, 17, 18, 19, 20, 21, 22, 23, 24, 25, 26, 27, 28, 29] 0 a0) w1) :
    (Code.region 6 (regIn Try.f20 6) true).wp Try.prog Q a0 w := by
  refine region_by (G := fun w w1 => Below w.heap.size w w1) [IsV (.int .i64 ((k : Int) + 1)),
    IsV (.bool true),
    IsV (.bool true),
    IsV (.slice (some ⟨q, 0, none⟩) N c3),
    IsV (.int .i64 ((k : Int) + 1)),
    IsV (.int .i64 k),
    IsV (.pointer (some ⟨q, k * 2, none⟩)),
    IsV (.agg #[.int .i64 u, .int .i64 v]),
    IsV (.slice (some ad) n cL),
    IsV (.int .i64 i),
    IsV (.pointer (some (ad.add (i * 2)))),
    IsV (.agg #[.int .i64 x, .int .i64 y]),
    IsV (.int .i64 c),
    IsV (.bool r),
    IsV (.bool r)]
    [15, 16, 17, 18, 19, 20, 21, 22, 23, 24, 25, 26, 27, 28, 29] (by kernel_rfl) (Gw.drew _) Gw.trans (by rw [hsz]; kernel_rfl) (by kernel_rfl) ?_ ?_ ?_
  · intro f hf
    simp only [List.mem_cons, List.not_mem_nil, or_false] at hf
    rcases hf with rfl | rfl | rfl | rfl | rfl | rfl | rfl | rfl | rfl | rfl | rfl | rfl | rfl | rfl | rfl <;> intro v a b h g <;> first | exact IsV.mono h
  · refine ⟨?_, ?_, ?_, ?_, ?_, ?_, ?_, ?_, ?_, ?_, ?_, ?_, ?_, ?_, ?_, trivial⟩
    · exact owes_mv 5 (by kernel_rfl) (by kernel_rfl) (by kernel_rfl) sl5 (fun _ => rfl)
    · refine owes_v (Go.Op.binOp Go.BinOp.gtr 3 (Go.Operand.tmp 15) (Go.Operand.const (Go.Value.int Go.IntKind.i64 0)) 3) 4 [0] (by kernel_rfl) (by kernel_rfl) (by kernel_rfl) rfl fun vals w1 ρ hG hF hρ hcst hfun => ?_
      have e15 : ρ (.tmp 15) = .int .i64 ((k : Int) + 1) := ((hρ 15).trans (slotJ [0] (by rw [hsz]; decide) (by kernel_rfl))).trans (hF 0 (by decide))
      have j0 : (0 : Int) < (k : Int) + 1 := by omega
      clear hρ hF hfun sl0 sl3 sl4 sl5 fin
      exact opv_val (by go_simp <;> rfl) ⟨gw_self _, rfl⟩
    · exact owes_mvj 1 16 (by kernel_rfl) (by kernel_rfl) (by kernel_rfl) (by kernel_rfl) (by rw [hsz]; decide) (fun v w h => h)
    · refine owes_vt 2 true (Go.Op.move (Go.Operand.tmp 3)) 38 [] (by kernel_rfl) (by kernel_rfl) (by kernel_rfl) (fun _ _ h => h) (by rw [hsz]; kernel_rfl) (by kernel_rfl) rfl fun vals w1 ρ hG hF hρ hcst hfun => ?_
      have e3 : ρ (.tmp 3) = .slice (some ⟨q, 0, none⟩) N c3 := ((hρ 3).trans (slotO [] (by kernel_rfl))).trans sl3
      clear hρ hF hcst hfun sl0 sl3 sl4 sl5 fin
      exact opv_val (by go_simp <;> rfl) ⟨gw_self _, rfl⟩
    · refine owes_vt 2 true (Go.Op.move (Go.Operand.tmp 5)) 3 [] (by kernel_rfl) (by kernel_rfl) (by kernel_rfl) (fun _ _ h => h) (by rw [hsz]; kernel_rfl) (by kernel_rfl) rfl fun vals w1 ρ hG hF hρ hcst hfun => ?_
      have e5 : ρ (.tmp 5) = .int .i64 ((k : Int) + 1) := ((hρ 5).trans (slotO [] (by kernel_rfl))).trans sl5
      clear hρ hF hcst hfun sl0 sl3 sl4 sl5 fin
      exact opv_val (by go_simp <;> rfl) ⟨gw_self _, rfl⟩
    · refine owes_vt 2 true (Go.Op.binOp Go.BinOp.sub 3 (Go.Operand.tmp 19) (Go.Operand.const (Go.Value.int Go.IntKind.i64 1)) 3) 3 [4] (by kernel_rfl) (by kernel_rfl) (by kernel_rfl) (fun _ _ h => h) (by rw [hsz]; kernel_rfl) (by kernel_rfl) rfl fun vals w1 ρ hG hF hρ hcst hfun => ?_
      have e19 : ρ (.tmp 19) = .int .i64 ((k : Int) + 1) := ((hρ 19).trans (slotJ [4] (by rw [hsz]; decide) (by kernel_rfl))).trans (hF 4 (by decide))
      have kw0 : IntKind.i64.wrap ((k : Int)) = (k : Int) := wrapIn (by omega) (by omega)
      clear hρ hF hfun sl0 sl3 sl4 sl5 fin
      exact opv_val (by go_simp <;> rfl) ⟨gw_self _, rfl⟩
    · refine owes_vt 2 true (Go.Op.indexAddr 38 (Go.Operand.tmp 18) (Go.Operand.tmp 20)) 0 [3, 5] (by kernel_rfl) (by kernel_rfl) (by kernel_rfl) (fun _ _ h => h) (by rw [hsz]; kernel_rfl) (by kernel_rfl) rfl fun vals w1 ρ hG hF hρ hcst hfun => ?_
      have e18 : ρ (.tmp 18) = .slice (some ⟨q, 0, none⟩) N c3 := ((hρ 18).trans (slotJ [3, 5] (by rw [hsz]; decide) (by kernel_rfl))).trans (hF 3 (by decide))
      have e20 : ρ (.tmp 20) = .int .i64 k := ((hρ 20).trans (slotJ [3, 5] (by rw [hsz]; decide) (by kernel_rfl))).trans (hF 5 (by decide))
      clear hρ hF hcst hfun sl0 sl3 sl4 sl5 fin
      exact opv_val (by go_simp <;> rfl) ⟨gw_self _, rfl⟩
    · refine owes_vt 2 true (Go.Op.load 27 (Go.Operand.tmp 21)) 27 [6] (by kernel_rfl) (by kernel_rfl) (by kernel_rfl) (fun _ _ h => h) (by rw [hsz]; kernel_rfl) (by kernel_rfl) rfl fun vals w1 ρ hG hF hρ hcst hfun => ?_
      have e21 : ρ (.tmp 21) = .pointer (some ⟨q, k * 2, none⟩) := ((hρ 21).trans (slotJ [6] (by rw [hsz]; decide) (by kernel_rfl))).trans (hF 6 (by decide))
      obtain ⟨j1, j2⟩ := And.intro ((hG.cell (p := ⟨q, k * 2, none⟩) hq).trans d1) ((hG.cell (p := ⟨q, k * 2 + 1, none⟩) hq).trans d2)
      clear hρ hF hcst hfun sl0 sl3 sl4 sl5 fin
      exact opv_val (by go_simp <;> rfl) ⟨gw_self _, rfl⟩
    · refine owes_vt 2 true (Go.Op.move (Go.Operand.tmp 0)) 38 [] (by kernel_rfl) (by kernel_rfl) (by kernel_rfl) (fun _ _ h => h) (by rw [hsz]; kernel_rfl) (by kernel_rfl) rfl fun vals w1 ρ hG hF hρ hcst hfun => ?_
      have e0 : ρ (.tmp 0) = .slice (some ad) n cL := ((hρ 0).trans (slotO [] (by kernel_rfl))).trans sl0
      clear hρ hF hcst hfun sl0 sl3 sl4 sl5 fin
      exact opv_val (by go_simp <;> rfl) ⟨gw_self _, rfl⟩
    · refine owes_vt 2 true (Go.Op.move (Go.Operand.tmp 4)) 3 [] (by kernel_rfl) (by kernel_rfl) (by kernel_rfl) (fun _ _ h => h) (by rw [hsz]; kernel_rfl) (by kernel_rfl) rfl fun vals w1 ρ hG hF hρ hcst hfun => ?_
      have e4 : ρ (.tmp 4) = .int .i64 i := ((hρ 4).trans (slotO [] (by kernel_rfl))).trans sl4
      clear hρ hF hcst hfun sl0 sl3 sl4 sl5 fin
      exact opv_val (by go_simp <;> rfl) ⟨gw_self _, rfl⟩
    · refine owes_vt 2 true (Go.Op.indexAddr 38 (Go.Operand.tmp 23) (Go.Operand.tmp 24)) 0 [8, 9] (by kernel_rfl) (by kernel_rfl) (by kernel_rfl) (fun _ _ h => h) (by rw [hsz]; kernel_rfl) (by kernel_rfl) rfl fun vals w1 ρ hG hF hρ hcst hfun => ?_
      have e23 : ρ (.tmp 23) = .slice (some ad) n cL := ((hρ 23).trans (slotJ [8, 9] (by rw [hsz]; decide) (by kernel_rfl))).trans (hF 8 (by decide))
      have e24 : ρ (.tmp 24) = .int .i64 i := ((hρ 24).trans (slotJ [8, 9] (by rw [hsz]; decide) (by kernel_rfl))).trans (hF 9 (by decide))
      clear hρ hF hcst hfun sl0 sl3 sl4 sl5 fin
      exact opv_val (by go_simp <;> rfl) ⟨gw_self _, rfl⟩
    · refine owes_vt 2 true (Go.Op.load 27 (Go.Operand.tmp 25)) 27 [10] (by kernel_rfl) (by kernel_rfl) (by kernel_rfl) (fun _ _ h => h) (by rw [hsz]; kernel_rfl) (by kernel_rfl) rfl fun vals w1 ρ hG hF hρ hcst hfun => ?_
      have e25 : ρ (.tmp 25) = .pointer (some (ad.add (i * 2))) := ((hρ 25).trans (slotJ [10] (by rw [hsz]; decide) (by kernel_rfl))).trans (hF 10 (by decide))
      obtain ⟨j1, j2⟩ := And.intro ((hG.cell (by rw [add_block]; exact hb)).trans c1) ((hG.cell (p := ⟨(ad.add (i * 2)).block, (ad.add (i * 2)).off + 1, none⟩) (by show (ad.add (i * 2)).block < _; rw [add_block]; exact hb)).trans c2)
      clear hρ hF hcst hfun sl0 sl3 sl4 sl5 fin
      exact opv_val (by go_simp <;> rfl) ⟨gw_self _, rfl⟩
    · refine owes_vt 2 true (Go.Op.call { callee := Go.Callee.value (Go.Operand.func 10), args := #[Go.Operand.tmp 22, Go.Operand.tmp 26], argTypes := #[27, 27] }) 3 [7, 11] (by kernel_rfl) (by kernel_rfl) (by kernel_rfl) (fun _ _ h => h) (by rw [hsz]; kernel_rfl) (by kernel_rfl) rfl fun vals w1 ρ hG hF hρ hcst hfun => ?_
      have e22 : ρ (.tmp 22) = .agg #[.int .i64 u, .int .i64 v] := ((hρ 22).trans (slotJ [7, 11] (by rw [hsz]; decide) (by kernel_rfl))).trans (hF 7 (by decide))
      have e26 : ρ (.tmp 26) = .agg #[.int .i64 x, .int .i64 y] := ((hρ 26).trans (slotJ [7, 11] (by rw [hsz]; decide) (by kernel_rfl))).trans (hF 11 (by decide))
      clear hρ hF hcst sl0 sl3 sl4 sl5 fin
      exact opv_enter (by go_simp <;> rfl) (of_bel (HC.out w1))
    · refine owes_vt 2 true (Go.Op.binOp Go.BinOp.gtr 3 (Go.Operand.tmp 27) (Go.Operand.const (Go.Value.int Go.IntKind.i64 0)) 3) 4 [12] (by kernel_rfl) (by kernel_rfl) (by kernel_rfl) (fun _ _ h => h) (by rw [hsz]; kernel_rfl) (by kernel_rfl) rfl fun vals w1 ρ hG hF hρ hcst hfun => ?_
      have e27 : ρ (.tmp 27) = .int .i64 c := ((hρ 27).trans (slotJ [12] (by rw [hsz]; decide) (by kernel_rfl))).trans (hF 12 (by decide))
      clear hρ hF hfun sl0 sl3 sl4 sl5 fin
      exact opv_val (by go_simp <;> rfl) ⟨gw_self _, rfl⟩
    · refine owes_v (Go.Op.pick (Go.Operand.tmp 17) (Go.Operand.tmp 28) (Go.Operand.const (Go.Value.bool false))) 4 [2, 13] (by kernel_rfl) (by kernel_rfl) (by kernel_rfl) rfl fun vals w1 ρ hG hF hρ hcst hfun => ?_
      have e17 : ρ (.tmp 17) = .bool true := ((hρ 17).trans (slotJ [2, 13] (by rw [hsz]; decide) (by kernel_rfl))).trans (hF 2 (by decide))
      have e28 : ρ (.tmp 28) = .bool r := ((hρ 28).trans (slotJ [2, 13] (by rw [hsz]; decide) (by kernel_rfl))).trans (hF 13 (by decide))
      clear hρ hF hfun sl0 sl3 sl4 sl5 fin
      exact opv_val (by go_simp <;> rfl) ⟨gw_self _, rfl⟩
  · intro vals w1 hG hF
    exact fin vals w1 hG (hF 14 (by decide +kernel))
theorem refsort_c (w : World) (A : Option Addr) (c : Nat) (l : List (Int × Int)) (hr : JRd w w.heap.size A l) (hl : l.length ≤ 5000) :
    Calls Try.prog 20 #[.slice A l.length c] w fun e w' => ∃ v, e = .returned v ∧ JR w' w.heap.size v (sortN l) ∧ Below w.heap.size w w' := by
  obtain ⟨n, hn⟩ : ∃ n, n = l.length := ⟨_, rfl⟩
  rw [← hn]
  have HN := Lib.hid hn
  have HR := Lib.hid hr
  have q1 : (n : Int) ≤ 5000 := by omega
  clear hr hl hn
  go_enter Try.func20, Try.ntmps20
  go_wp2_with fail
  go_loopw [3, 4] (fun ov i wr => ∃ j : Nat, j ≤ n ∧ i = .int .i64 j ∧ Hid (JR wr w.heap.size ov (sortN (l.take j))) ∧ Hid (Below w.heap.size w wr)) (fun _ i _ => n - (intOf i).toNat)
  case atStart => exact ⟨0, Nat.zero_le _, rfl, Lib.hid (by rw [List.take_zero, show sortN [] = [] from by simp [sortN]]; exact JR.nil _ _), Lib.hid (Below.refl _ _)⟩
  case round =>
    obtain ⟨j, hj, rfl, hO, hB⟩ := hrel
    obtain ⟨w0, hw0⟩ : ∃ x, x = wr := ⟨_, rfl⟩
    obtain ⟨A3, c3, rfl, hc3, hm3⟩ := hO.out.slice
    rw [sortN_len] at hc3 ⊢
    by_cases hlt : j < n
    · have p1 : (0 : Int) ≤ (j : Int) := by omega
      have p2 : (j : Int) < (n : Int) := by omega
      have hjl : j < l.length := by rw [← HN.out]; exact hlt
      obtain ⟨ad, rfl, hab, cx, cy⟩ := (HR.out.below hB.out) j hjl
      obtain ⟨x, hx⟩ : ∃ x, x = l[j].1 := ⟨_, rfl⟩
      obtain ⟨y, hy⟩ : ∃ y, y = l[j].2 := ⟨_, rfl⟩
      have htk : l.take (j + 1) = l.take j ++ [(x, y)] := by
        rw [List.take_succ_eq_append_getElem hjl]
        congr 2
        exact Prod.ext hx.symm hy.symm
      rw [← hx] at cx
      rw [← hy] at cy
      have hlen : (l.take j).length = j := by rw [List.length_take]; omega
      obtain ⟨out, hout⟩ : ∃ o, o = sortN (l.take j) := ⟨_, rfl⟩
      have hol : out.length = j := by rw [hout, sortN_len, hlen]
      rw [hlen] at hc3 ⊢
      have HO := Lib.hid (show JR wr w.heap.size (.slice A3 out.length c3) out from by have h1 := hO.out; rw [sortN_len, hlen] at h1; rw [hol, hout]; exact h1)
      have HT := Lib.hid (And.intro htk (And.intro hout hol))
      have HC := Lib.hid (And.intro cx (And.intro cy hab))
      have HM := Lib.hid (And.intro hc3 hm3)
      have q2 : (j : Int) ≤ 5000 := by omega
      clear hx hy htk hlen hout hol hO cx cy hab hc3 hm3 hjl hw0
      go_upto_block 2 with fail
      go_cut [5] from 7 to 47 (fun s5 wx => ∃ k : Nat, k ≤ j ∧ s5 = .int .i64 k ∧ Hid ((∀ t (ht : t < out.length), t < k → cmpN out[t] (x, y) ≤ 0) ∧ ∀ t (ht : t < out.length), k ≤ t → 0 < cmpN out[t] (x, y)) ∧ Hid (Below wr.heap.size wr wx))
      case first =>
        obtain ⟨W, hW⟩ : ∃ X, X = wr := ⟨_, rfl⟩
        rw [← hW] at HO HC hB ⊢
        have HWQ := Lib.hid hW
        clear hW
        go_wp2_with fail
        go_loopw [5] (fun kv wz => ∃ k : Nat, k ≤ j ∧ kv = .int .i64 k ∧ Hid (∀ t (ht : t < out.length), k ≤ t → 0 < cmpN out[t] (x, y)) ∧ Hid (Below W.heap.size W wz)) (fun kv _ => (intOf kv).toNat)
        case atStart => exact ⟨j, Nat.le_refl _, rfl, Lib.hid (fun t ht h => by have := HT.out.2.2; omega), Lib.hid (Below.refl _ _)⟩
        case round =>
          obtain ⟨k, hk, rfl, hG, hBz⟩ := hrel
          cases k with
          | zero =>
            go_wp2_with fail
            refine rs60_reg _ _ wr rfl rfl ?_
            intro vals w7 h7 h29
            unfold IsV at h29
            simp only [putD, Act.put, List.setIfInBounds_toArray, List.set_cons_zero, List.set_cons_succ, h29]
            have HB7 := Lib.hid (hBz.out.trans (h7.mono hBz.out.size))
            clear h29 h7
            go_wp2_with fail
            go_meet
            exact ⟨0, Nat.zero_le _, rfl, Lib.hid ⟨fun t ht h => absurd h (by omega), hG.out⟩, by rw [← HWQ.out]; exact HB7⟩
          | succ k =>
            have hkl : k < out.length := by have := HT.out.2.2; omega
            obtain ⟨q, rfl, _, hq, d1, d2⟩ := (HO.out.below hBz.out).at_ k hkl
            obtain ⟨u, hu⟩ : ∃ u, u = out[k].1 := ⟨_, rfl⟩
            obtain ⟨v, hv⟩ : ∃ v, v = out[k].2 := ⟨_, rfl⟩
            have huv : out[k] = (u, v) := Prod.ext hu.symm hv.symm
            rw [← hu] at d1
            rw [← hv] at d2
            obtain ⟨cc, hcc⟩ : ∃ cc, cc = cmpN out[k] (x, y) := ⟨_, rfl⟩
            have hcl := fun W => refcmp_c (u, v) (x, y) W
            rw [← huv, ← hcc] at hcl
            rw [huv] at hcl
            have HCL := Lib.hid (show ∀ W, Calls Try.prog 10 #[.agg #[.int .i64 u, .int .i64 v], .agg #[.int .i64 x, .int .i64 y]] W fun e w' => e = .returned (.int .i64 cc) ∧ Below W.heap.size W w' from hcl)
            have HCC := Lib.hid (And.intro hcc hkl)
            have HD := Lib.hid (And.intro d1 (And.intro d2 hq))
            have e1 : ((k + 1 : Nat) : Int) = (k : Int) + 1 := by omega
            rw [e1]
            have hk2 : (k : Int) < (j : Int) := by omega
            have HOL := Lib.hid HT.out.2.2
            clear hu hv huv hcl hcc d1 d2 hq e1
            obtain ⟨r, hrr⟩ : ∃ r, r = decide (0 < cc) := ⟨_, rfl⟩
            have HRR := Lib.hid hrr
            clear hrr
            go_wp2_with fail
            refine rs61_reg _ _ wr q ad j c3 n c j k x y u v cc r HD.out.2.2 (Nat.lt_of_lt_of_le HC.out.2.2 hBz.out.size) ((hBz.out.cell (by rw [add_block]; exact HC.out.2.2)).trans HC.out.1) ((hBz.out.cell (p := ⟨(ad.add (j * 2)).block, (ad.add (j * 2)).off + 1, none⟩) (by show (ad.add (j * 2)).block < _; rw [add_block]; exact HC.out.2.2)).trans HC.out.2.1) HD.out.1 HD.out.2.1 p1 p2 (by omega) hk2 (by omega) HRR.out.symm HCL rfl rfl rfl rfl rfl ?_
            intro vals w7 h7 h29
            unfold IsV at h29
            simp only [putD, Act.put, List.setIfInBounds_toArray, List.set_cons_zero, List.set_cons_succ, h29]
            have HB7 := Lib.hid (hBz.out.trans (h7.mono hBz.out.size))
            clear h29 h7
            cases r with
            | true =>
              go_wp2_with fail
              go_roundw
              case rel => exact ⟨k, by omega, by go_num, Lib.hid (fun t ht h => by
                rcases (show t = k ∨ k + 1 ≤ t by omega) with rfl | h3
                · have h4 := HRR.out
                  rw [eq_comm, decide_eq_true_eq, HCC.out.1] at h4
                  exact h4
                · exact hG.out t ht h3), HB7⟩
              case measure => (first | (simp [intOf]; done) | (simp [intOf]; omega))
            | false =>
              go_wp2_with fail
              go_meet
              exact ⟨k + 1, by omega, by go_num, Lib.hid ⟨sortN_below HT.out.2.1 (x, y) k HCC.out.2 (by
                have h4 := HRR.out
                rw [eq_comm, decide_eq_false_iff_not, HCC.out.1] at h4
                omega), hG.out⟩, by rw [← HWQ.out]; exact HB7⟩
      case rest =>
        obtain ⟨k, hk, rfl, hS, hBx⟩ := hcut
        have HOX := Lib.hid (HO.out.below hBx.out)
        have HBX := Lib.hid (hB.out.trans (hBx.out.mono hB.out.size))
        have HCX := Lib.hid (show wc.cell? (ad.add (j * 2)) = some (.int .i64 x) ∧ wc.cell? ⟨(ad.add (j * 2)).block, (ad.add (j * 2)).off + 1, none⟩ = some (.int .i64 y) ∧ ad.block < wc.heap.size from ⟨(hBx.out.cell (by rw [add_block]; exact HC.out.2.2)).trans HC.out.1, (hBx.out.cell (p := ⟨(ad.add (j * 2)).block, (ad.add (j * 2)).off + 1, none⟩) (by show (ad.add (j * 2)).block < _; rw [add_block]; exact HC.out.2.2)).trans HC.out.2.1, Nat.lt_of_lt_of_le HC.out.2.2 hBx.out.size⟩)
        have HNEW := Lib.hid (show out.take k ++ [(x, y)] ++ out.drop k = sortN (l.take (j + 1)) from by rw [HT.out.1]; exact sortN_insert HT.out.2.1 (x, y) k hS.out.1 hS.out.2)
        have HOL := Lib.hid HT.out.2.2
        have q3 : (k : Int) ≤ (j : Int) := by omega
        clear hS hBx HO HC HT hB
        go_wp2_with fail
        refine rs8_law _ _ wc A3 (some ad) ad j c3 n c k j w.heap.size l out x y rfl (Lib.hid HOL.out.symm) HM.out.1 hk p1 p2 (by have := HOL.out; omega) HOX.out HCX.out.2.2 HCX.out.1 HCX.out.2.1 rfl rfl rfl rfl rfl ?_
        intro v0 v2 v7 v8 w8 hp8 hb8
        simp only [putA, putD, Act.put, List.setIfInBounds_toArray, List.set_cons_zero, List.set_cons_succ]
        have HP8 := Lib.hid hp8
        have HO8 := Lib.hid (HOX.out.below hb8)
        have HB8 := Lib.hid (HBX.out.trans (hb8.mono HBX.out.size))
        have HZ8 := Lib.hid hb8.size
        have HZW := Lib.hid HBX.out.size
        clear hp8 hb8 HOX HBX HCX
        have HFIN := Lib.hid (show ∀ v9 w9, JR w9 wc.heap.size v9 (out.take k ++ [(x, y)] ++ out.drop k) → Below wc.heap.size w8 w9 → Hid (JR w9 w.heap.size v9 (sortN (l.take (j + 1)))) ∧ Hid (Below w.heap.size w w9) from fun v9 w9 h9 hb9 => by
          rw [HNEW.out] at h9
          exact ⟨Lib.hid (h9.mono HZW.out), Lib.hid (HB8.out.trans (hb9.mono HZW.out))⟩)
        rcases HO8.out.form with ⟨e, h0⟩ | ⟨q, cq, e, hq1, hq2, _⟩
        · injection e with e1 e2 e3
          subst e1
          subst e3
          have hj0 : j = 0 := by have := HOL.out; rw [h0] at this; simpa using this.symm
          have hk0 : k = 0 := by omega
          subst hj0
          subst hk0
          have hd0 : out.drop 0 = [] := by rw [h0]; rfl
          have hd1 : RdJ w8 none (out.drop 0) := by rw [hd0]; intro j u hu; cases hu
          have hd2 : 0 = (out.drop 0).length := by rw [hd0]; rfl
          have hd3 : (out.take 0 ++ [(x, y)]).length + (out.drop 0).length ≤ 100000 := by rw [hd0]; simp
          have HDD := Lib.hid (And.intro hd1 (And.intro hd2 hd3))
          clear hd0 hd1 hd2 hd3 h0 e2
          go_wp2_with (at_builtin; refine wp_appJ rfl (.tmp 43) (.tmp 46) rfl rfl HP8.out none 0 0 (out.drop 0) rfl HDD.out.2.1 HDD.out.1 HDD.out.2.2 HZ8.out ?_; intro v9 w9 h9 hb9 _ _; have H9 := Lib.hid (HFIN.out v9 w9 h9 hb9); clear h9 hb9)
          go_roundw
          case rel => exact ⟨0 + 1, by omega, by go_num, H9.out.1, H9.out.2⟩
          case measure => (first | (simp [intOf]; done) | (simp [intOf]; omega))
        · injection e with e1 e2 e3
          subst e1
          subst e3
          obtain ⟨XA, hXA⟩ : ∃ XA : Option Addr, XA = if c3 = k then some ⟨q, 0, none⟩ else some ⟨q, k * 2, none⟩ := ⟨_, rfl⟩
          have hd1 : RdJ w8 XA (out.drop k) := by
            rw [hXA]
            have hr7 : RdJ w8 (some ⟨q, 0, none⟩) out := HO8.out.rdp
            by_cases hck : c3 = k
            · have hd : out.drop k = [] := List.drop_eq_nil_of_le (by have := HM.out.1; have := HOL.out; omega)
              rw [hd]
              intro i u hu
              cases hu
            · rw [if_neg hck]
              have h8 := hr7.suf k
              rw [show (0 : Nat) + 2 * k = k * 2 from by omega] at h8
              exact h8
          have hd2 : j - k = (out.drop k).length := by rw [List.length_drop, HOL.out]
          have hd3 : (out.take k ++ [(x, y)]).length + (out.drop k).length ≤ 100000 := by
            rw [List.length_append, List.length_take, List.length_drop]; have := HOL.out; simp; omega
          have HDD := Lib.hid (And.intro hd1 (And.intro hd2 hd3))
          have q7 : (k : Int) ≤ (c3 : Int) := by have := HM.out.1; omega
          clear hd1 hd2 hd3 e2
          by_cases hck : c3 = k
          · rw [if_pos hck] at hXA
            subst hXA
            have hjk : j = k := by have := HM.out.1; omega
            subst hjk
            subst hck
            go_wp2_with (at_builtin; refine wp_appJ rfl (.tmp 43) (.tmp 46) rfl rfl HP8.out (some ⟨q, 0, none⟩) 0 0 (out.drop c3) rfl (by have := HDD.out.2.1; omega) HDD.out.1 HDD.out.2.2 HZ8.out ?_; intro v9 w9 h9 hb9 _ _; have H9 := Lib.hid (HFIN.out v9 w9 h9 hb9); clear h9 hb9)
            go_roundw
            case rel => exact ⟨c3 + 1, by omega, by go_num, H9.out.1, H9.out.2⟩
            case measure => (first | (simp [intOf]; done) | (simp [intOf]; omega))
          · rw [if_neg hck] at hXA
            subst hXA
            have q8 : (k : Int) < (c3 : Int) := by omega
            go_wp2_with (at_builtin; refine wp_appJ rfl (.tmp 43) (.tmp 46) rfl rfl HP8.out (some ⟨q, k * 2, none⟩) (j - k) (c3 - k) (out.drop k) rfl HDD.out.2.1 HDD.out.1 HDD.out.2.2 HZ8.out ?_; intro v9 w9 h9 hb9 _ _; have H9 := Lib.hid (HFIN.out v9 w9 h9 hb9); clear h9 hb9)
            go_roundw
            case rel => exact ⟨j + 1, by omega, by go_num, H9.out.1, H9.out.2⟩
            case measure => (first | (simp [intOf]; done) | (simp [intOf]; omega))
    · obtain rfl : j = n := by omega
      have hO2 := hO.out
      rw [List.take_of_length_le (by rw [← HN.out]; omega)] at hO2 ⊢
      rw [sortN_len, ← HN.out] at hO2
      rw [← HN.out]
      have HO := Lib.hid hO2
      go_wp2_with fail
      go_ret
      exact ⟨_, rfl, HO.out, hB.out⟩
end Go.Proofs.Ytgddehhigamkkaa
