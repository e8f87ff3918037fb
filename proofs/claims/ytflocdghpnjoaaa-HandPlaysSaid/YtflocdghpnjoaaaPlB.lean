/- A row of pairs (a handle, its node) as a list; append; at. Conditions: lengths. -/
import Derived.Test.YtflocdghpnjoaaaPlA
import Derived.LoopTactic
namespace Go.Proofs.Ytflocdghpnjoaaa
set_option linter.unusedVariables false
set_option linter.unusedSimpArgs false
open Go.RowKit Go.Maps
set_option maxHeartbeats 400000
set_option maxRecDepth 100000
theorem add_off (b o k : Nat) : ((⟨b, o, none⟩ : Addr).add k) = ⟨b, o + k, none⟩ := by unfold Addr.add; split <;> simp_all
def pC (p : Int × Int) : List Value := [.int .i64 p.1, .int .i64 p.2]
def flatP (l : List (Int × Int)) : List Value := l.flatMap pC
theorem flatP_len (l : List (Int × Int)) : (flatP l).length = l.length * 2 := by
  induction l with
  | nil => rfl
  | cons p l ih => rw [show flatP (p :: l) = pC p ++ flatP l from rfl, List.length_append, ih, List.length_cons]; show 2 + _ = _; omega
theorem flatP_app (a b : List (Int × Int)) : flatP (a ++ b) = flatP a ++ flatP b := List.flatMap_append ..
theorem flatP_drop (l : List (Int × Int)) : ∀ k, (flatP l).drop (2 * k) = flatP (l.drop k) := by
  induction l with
  | nil => intro k; simp [flatP]
  | cons p l ih =>
    intro k
    cases k with
    | zero => rfl
    | succ k =>
      rw [show flatP (p :: l) = pC p ++ flatP l from rfl, show 2 * (k + 1) = 2 * k + 1 + 1 from by omega]
      show ((flatP l)).drop (2 * k) = _
      exact ih k
theorem flatP_at (l : List (Int × Int)) (j : Nat) (hj : j < l.length) : (flatP l)[2 * j]? = some (.int .i64 l[j].1) ∧ (flatP l)[2 * j + 1]? = some (.int .i64 l[j].2) := by
  have h0 : (flatP l).drop (2 * j) = flatP (l.drop j) := flatP_drop l j
  rw [List.drop_eq_getElem_cons hj] at h0
  have h1 := congrArg (fun L => L[0]?) h0
  have h2 := congrArg (fun L => L[1]?) h0
  simp only [List.getElem?_drop, Nat.add_zero] at h1 h2
  exact ⟨h1, h2⟩
theorem flatP_one (l : List (Int × Int)) : ∀ u ∈ flatP l, u.oneCell' = true := by
  intro u hu
  obtain ⟨p, _, hp⟩ := List.mem_flatMap.1 hu
  simp only [pC, List.mem_cons, List.not_mem_nil, or_false] at hp
  rcases hp with rfl | rfl <;> rfl
theorem infoP : (Try.prog.info? 31).map (fun i => (i.zero, i.size, i.bytes)) = some (some (.agg #[.int .i64 0, .int .i64 0]), 2, 16) := by kernel_rfl
theorem info_parts {o : Option TypeInfo} {z : Option Value} {s b : Nat} (h : o.map (fun i => (i.zero, i.size, i.bytes)) = some (z, s, b)) : ∃ i, o = some i ∧ i.zero = z ∧ i.size = s ∧ i.bytes = b := by
  cases o with
  | none => cases h
  | some i => simp at h; exact ⟨i, rfl, h.1, h.2.1, h.2.2⟩
theorem Kept.row {S : Nat → Prop} {w w' : World} {E : TypeId} {K base n : Nat} {v : Value} {xs : List Value} (h : Kept S w w') (ho : w.ownsRow base E K v n xs) (hn : ∀ k, v.ownBlock = some k → ¬ S k) : w'.ownsRow base E K v n xs := by
  obtain ⟨h1, h2⟩ := ho
  refine ⟨h1, ?_⟩
  rcases h2 with h2 | ⟨g, cap, cur, e, hg, hh, r⟩
  · exact .inl h2
  · refine .inr ⟨g, cap, cur, e, hg, ?_, r⟩
    have hl : g < w.heap.size := by
      rcases Nat.lt_or_ge g w.heap.size with hl | hl
      · exact hl
      · rw [Array.getElem?_eq_none hl] at hh; cases hh
    rw [h.block g hl (hn g (by rw [e]; rfl))]; exact hh
/-- A row of pairs of one's own. -/
def PR (w : World) (base : Nat) (v : Value) (l : List (Int × Int)) : Prop := w.ownsRow base 31 2 v l.length (flatP l)
/-- A slice's address reads as pairs. -/
def RdP (w : World) (A : Option Addr) (l : List (Int × Int)) : Prop := ∀ j u, (flatP l)[j]? = some u → ∃ a, A = some a ∧ w.cell? (a.add j) = some u
section
variable {w w' : World} {base : Nat} {v : Value} {l : List (Int × Int)} {S : Nat → Prop}
theorem PR.kept (h : PR w base v l) (hk : Kept S w w') (hn : ∀ k, v.ownBlock = some k → ¬ S k) : PR w' base v l := hk.row h hn
theorem PR.below (h : PR w base v l) (hb : Below w.heap.size w w') : PR w' base v l := h.kept (Kept.of_below hb (fun _ => False)) (fun _ _ f => f)
theorem PR.nil (w : World) (base : Nat) : PR w base (.slice none 0 0) [] := ⟨rfl, .inl ⟨rfl, rfl⟩⟩
theorem PR.empty (w : World) (base q : Nat) (hq : base ≤ q) (hb : Bk w q 31 #[]) : PR w base (.slice (some ⟨q, 0, none⟩) 0 0) [] := ⟨rfl, .inr ⟨q, 0, #[], rfl, hq, hb, Nat.le_refl _, by simp [maxLen], rfl, rfl⟩⟩
theorem PR.form (h : PR w base v l) : (v = .slice none 0 0 ∧ l = []) ∨ ∃ q c, v = .slice (some ⟨q, 0, none⟩) l.length c ∧ l.length ≤ c ∧ c ≤ maxLen ∧ base ≤ q ∧ q < w.heap.size := by
  rcases h.2 with ⟨e, hn⟩ | ⟨q, cap, cur, e, hB, hh, hc, hm, _⟩
  · exact .inl ⟨e, List.eq_nil_of_length_eq_zero hn⟩
  · exact .inr ⟨q, cap, e, hc, hm, hB, (Array.getElem?_eq_some_iff.1 hh).1⟩
theorem PR.slice (h : PR w base v l) : ∃ A c, v = .slice A l.length c ∧ l.length ≤ c ∧ c ≤ maxLen := by
  rcases h.form with ⟨rfl, rfl⟩ | ⟨q, c, rfl, h1, h2, _⟩
  · exact ⟨none, 0, rfl, Nat.le_refl _, by simp [maxLen]⟩
  · exact ⟨_, c, rfl, h1, h2⟩
theorem PR.lt (h : PR w base v l) : ∀ k, v.ownBlock = some k → base ≤ k ∧ k < w.heap.size := fun k hk => World.ownsRow.lt h k hk
theorem PR.rdp {A : Option Addr} {n c : Nat} (h : PR w base (.slice A n c) l) : RdP w A l := by
  intro j u hu
  rcases h.form with ⟨e, rfl⟩ | ⟨q, c', e, _⟩
  · cases hu
  · injection e with e1 e2 e3
    subst e1
    exact ⟨_, rfl, World.ownsRow.cells h rfl j u hu⟩
theorem RdP.pre {A : Option Addr} (h : RdP w A l) (k : Nat) : RdP w A (l.take k) := by
  intro j u hu
  refine h j u ?_
  have e : flatP l = flatP (l.take k) ++ flatP (l.drop k) := by rw [← flatP_app, List.take_append_drop]
  rw [e, List.getElem?_append_left (List.getElem?_eq_some_iff.1 hu).1]
  exact hu
theorem RdP.suf {b o : Nat} (h : RdP w (some ⟨b, o, none⟩) l) (k : Nat) : RdP w (some ⟨b, o + 2 * k, none⟩) (l.drop k) := by
  intro j u hu
  rw [← flatP_drop, List.getElem?_drop] at hu
  obtain ⟨a, e, hc⟩ := h _ _ hu
  injection e with e
  subst e
  refine ⟨_, rfl, ?_⟩
  rw [← hc, add_off, add_off, Nat.add_assoc]
/-- The cells of element j. -/
theorem PR.at_ {A : Option Addr} {n c : Nat} (h : PR w base (.slice A n c) l) (j : Nat) (hj : j < l.length) : ∃ q, A = some ⟨q, 0, none⟩ ∧ base ≤ q ∧ q < w.heap.size ∧ w.cell? ⟨q, j * 2, none⟩ = some (.int .i64 l[j].1) ∧ w.cell? ⟨q, j * 2 + 1, none⟩ = some (.int .i64 l[j].2) := by
  rcases h.form with ⟨e, rfl⟩ | ⟨q, c', e, _, _, h1, h2⟩
  · exact absurd hj (by simp)
  · injection e with e1 e2 e3
    subst e1
    obtain ⟨f1, f2⟩ := flatP_at l j hj
    have c1 := World.ownsRow.cells h rfl _ _ f1
    have c2 := World.ownsRow.cells h rfl _ _ f2
    refine ⟨q, rfl, h1, h2, ?_, ?_⟩
    · rw [add_off] at c1; rw [← c1]; congr 2; omega
    · rw [add_off] at c2; rw [← c2]; congr 2; omega
variable {ops : Array Oper} {rest : List Oper} {o : Oper} {a : Act} {Q : Exit → Act → World → Prop}
/-- append of pairs to a row of one's own. -/
theorem wp_appP (hgd : o.guard = none) (s x : Operand)
    (ho : o.op = .call { callee := .builtin .append, args := #[s, x], argTypes := #[26, 26] })
    (hs : a.eval s = v) (hown : PR w base v l)
    (A : Option Addr) (m c : Nat) (ys : List (Int × Int)) (hx : a.eval x = .slice A m c) (hm : m = ys.length) (hr : RdP w A ys)
    (h63 : l.length + ys.length ≤ 100000) (hbase : base ≤ w.heap.size)
    (h : ∀ v' w', PR w' base v' (l ++ ys) → Below base w w' → w.grownBy w' v.ownBlock → (v'.ownBlock = v.ownBlock ∨ v'.ownBlock = some w.heap.size) → wpList Try.prog ops Q rest (a.put o.dst v') w') : wpList Try.prog ops Q (o :: rest) a w := by
  subst hm
  obtain ⟨i, hi, hz, hsize, hbytes⟩ := info_parts infoP
  have hu := Try.underlying26
  have hbel : ∀ (v' : Value) (w' : World), w.grownBy w' v.ownBlock → Below base w w' := fun v' w' hg => (Below.refl _ _).grown hg hbase (fun k hk => (World.ownsRow.lt hown k hk).1)
  refine wpList_plain hgd fun K hK => ?_
  rcases A with _ | ad
  · have h0 : ys = [] := by
      cases ys with
      | nil => rfl
      | cons p ys =>
        obtain ⟨a, e, _⟩ := hr 0 (.int .i64 p.1) rfl
        cases e
    subst h0
    have hrun : (Builtin.append_ #[26, 26] o.type #[v, .slice none 0 c]).run Try.prog w = .ok v w := by
      rcases hown.2 with ⟨rfl, hn⟩ | ⟨g, cap, cur, rfl, _, _, hnc, _⟩
      · simp [Builtin.append_, run_underlying hu, sizeOf, typeInfo, hi, Builtin.lenOf, Builtin.firstCells]
      · simp [Builtin.append_, run_underlying hu, sizeOf, typeInfo, hi, Builtin.lenOf, Builtin.firstCells, hnc, storeCells]
    unfold Oper.wp execOp
    simp only [ho, resolve, invoke, builtin, Sem.run_bind, Sem.run_pure, Result.andThen_ok, List.map_toArray, List.map_cons, List.map_nil, hs, hx, List.length_nil, hrun]
    exact hK _ _ (h v w (by simpa using hown) (Below.refl _ _) (World.grownBy.refl w _) (.inl rfl))
  · obtain ⟨v', w', hrun, h2, h3, _, h5⟩ := run_append_own_at (P := Try.prog) w base 26 o.type 31 i _ 2 16 hu hi hz hsize hbytes rfl (by decide) v l.length (flatP l) hown ad ys.length c (flatP ys) (flatP_len ys)
      (fun j u hj => by
        obtain ⟨a, e, hc⟩ := hr j u hj
        injection e with e
        subst e
        exact hc) (flatP_one ys) (by unfold maxLen; omega) (by omega) hbase
    unfold Oper.wp execOp
    simp only [ho, resolve, invoke, builtin, Sem.run_bind, Sem.run_pure, Result.andThen_ok, List.map_toArray, List.map_cons, List.map_nil, hs, hx, hrun]
    refine hK _ _ (h v' w' ?_ (hbel v' w' h3) h3 h5)
    unfold PR
    rw [List.length_append, flatP_app]
    exact h2
end
/-- Where a handle stands. -/
def atL (l : List (Int × Int)) (h : Int) : Int := if l.findIdx (fun p => p.1 == h) < l.length then ((l.findIdx (fun p => p.1 == h) : Nat) : Int) else -1
theorem at_n (w : World) (base : Nat) (A : Option Addr) (c N : Nat) (l : List (Int × Int)) (hN : N = l.length) (hr : PR w base (.slice A l.length c) l) (hl : l.length ≤ 1000) (h : Int) :
    Calls Try.prog 11 #[.slice A N c, .int .i64 h] w fun e w' => Below w.heap.size w w' ∧ ((∃ j, ∃ hj : j < l.length, e = .returned (.int .i64 j) ∧ l[j].1 = h) ∨ (e = .returned (.int .i64 (-1)) ∧ ∀ p ∈ l, p.1 ≠ h)) := by
  have HN := Lib.hid hN
  have HR := Lib.hid hr
  have hN2 : (N : Int) ≤ 1000 := by omega
  clear hr hl hN
  go_enter Try.func11, Try.ntmps11
  go_wp2_with fail
  go_loopw [5] (fun i wr => ∃ j : Nat, j ≤ N ∧ i = .int .i64 j ∧ Hid (∀ k (hk : k < l.length), k < j → l[k].1 ≠ h) ∧ Hid (Below w.heap.size w wr)) (fun i _ => N - (intOf i).toNat)
  case atStart => exact ⟨0, Nat.zero_le _, rfl, Lib.hid (fun k hk h0 => by omega), Lib.hid (Below.refl _ _)⟩
  case round =>
    obtain ⟨j, hj, rfl, hno, hB⟩ := hrel
    by_cases hlt : j < N
    · have p1 : (0 : Int) ≤ (j : Int) := by omega
      have p2 : (j : Int) < (N : Int) := by omega
      have hjl : j < l.length := by rw [← HN.out]; exact hlt
      obtain ⟨q, rfl, _, hq, c1, c2⟩ := (HR.out.below hB.out).at_ j hjl
      obtain ⟨z, hz⟩ : ∃ z, z = l[j].1 := ⟨_, rfl⟩
      rw [← hz] at c1
      have HZ := Lib.hid hz
      have HJ := Lib.hid hjl
      clear hz c2
      by_cases e : z = h
      · have t : ((z == h) : Bool) = true := by simpa using e
        go_wp2_with fail
        go_ret
        exact ⟨hB.out, .inl ⟨j, HJ.out, rfl, by rw [← HZ.out]; exact e⟩⟩
      · have t : ((z == h) : Bool) = false := by simpa using e
        have HE := Lib.hid e
        clear e
        go_wp2_with fail
        go_roundw
        case rel => exact ⟨j + 1, by omega, by go_num, Lib.hid (fun k hk h1 => by
          rcases (show k < j ∨ k = j by omega) with h2 | rfl
          · exact hno.out k hk h2
          · rw [← HZ.out]; exact HE.out), hB⟩
        case measure => (first | (simp [intOf]; done) | (simp [intOf]; omega))
    · obtain rfl : j = N := by omega
      go_wp2_with fail
      go_ret
      refine ⟨hB.out, .inr ⟨rfl, fun p hp => ?_⟩⟩
      obtain ⟨k, hk, rfl⟩ := List.getElem_of_mem hp
      exact hno.out k hk (by rw [HN.out]; exact hk)
end Go.Proofs.Ytflocdghpnjoaaa
