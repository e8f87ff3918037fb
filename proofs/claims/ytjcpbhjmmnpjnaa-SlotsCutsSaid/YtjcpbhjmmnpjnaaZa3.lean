/- Texts joined: GeomD GeomE RegT GeomR GeomS GeomT CrcC CrcD. -/
import Derived.Test.YtjcpbhjmmnpjnaaZa2
import Derived.Deep.RegionHeld3
/- What geom.around and geom.Owner answer. Conditions: small numbers. -/
namespace Go.Proofs.Ytjcpbhjmmnpjnaa
set_option linter.unusedVariables false
set_option linter.unusedSimpArgs false
open Go.RowKit
def aroundG (x : Int) : List (Int × Int) → Int × Int
  | [] => (0, 0)
  | p :: ps => if p.1 ≤ x ∧ x < p.1 + p.2 then p else aroundG x ps
/-- Places in a row, from cell 0 of block g on. -/
def PlRow (w : World) (g : Nat) (ps : List (Int × Int)) : Prop := g < w.heap.size ∧ ∀ j (h : j < ps.length), w.cell? ⟨g, j * 2, none⟩ = some (.int .i64 ps[j].1) ∧ w.cell? ⟨g, j * 2 + 1, none⟩ = some (.int .i64 ps[j].2)
theorem PlRow.below {w w' : World} {g : Nat} {ps : List (Int × Int)} (h : PlRow w g ps) (hb : Below w.heap.size w w') : PlRow w' g ps :=
  ⟨Nat.lt_of_lt_of_le h.1 hb.size, fun j hj => ⟨(hb.cell (p := ⟨g, j * 2, none⟩) h.1).trans (h.2 j hj).1, (hb.cell (p := ⟨g, j * 2 + 1, none⟩) h.1).trans (h.2 j hj).2⟩⟩
set_option maxHeartbeats 400000
def PlSl (ps : List (Int × Int)) (v : Value) (w : World) : Prop := ∃ g, v = .slice (some ⟨g, 0, none⟩) ps.length ps.length ∧ PlRow w g ps
theorem PlSl.mono {ps : List (Int × Int)} {v : Value} {a b : World} (h : PlSl ps v a) (g : Below a.heap.size a b) : PlSl ps v b := by
  obtain ⟨k, rfl, hp⟩ := h
  exact ⟨k, rfl, hp.below g⟩
theorem plrow5 (w : World) (E : TypeId) (a0 b0 a1 b1 a2 b2 a3 b3 a4 b4 : Int) : PlSl [(a0, b0), (a1, b1), (a2, b2), (a3, b3), (a4, b4)] (.slice (some ⟨w.heap.size, 0, none⟩) 5 5)
    (w.alloc (.cells #[.int .i64 a0, .int .i64 b0, .int .i64 a1, .int .i64 b1, .int .i64 a2, .int .i64 b2, .int .i64 a3, .int .i64 b3, .int .i64 a4, .int .i64 b4] E)) := by
  have hk := Bk.new w E #[.int .i64 a0, .int .i64 b0, .int .i64 a1, .int .i64 b1, .int .i64 a2, .int .i64 b2, .int .i64 a3, .int .i64 b3, .int .i64 a4, .int .i64 b4]
  refine ⟨_, rfl, hk.lt, fun j hj => ?_⟩
  have : j = 0 ∨ j = 1 ∨ j = 2 ∨ j = 3 ∨ j = 4 := by simp at hj; omega
  rcases this with rfl | rfl | rfl | rfl | rfl <;> exact ⟨hk.cell _, hk.cell _⟩
def allG (s l n : Int) : List (Int × Int) := [(0, 1), (1, 1), (2, l), (2 + l, oneG s n), (2 + l + oneG s n, oneG s n)]
end Go.Proofs.Ytjcpbhjmmnpjnaa
/- What geom.Owner answers of a geometry that may be. Conditions: it may be. -/
namespace Go.Proofs.Ytjcpbhjmmnpjnaa
set_option linter.unusedVariables false
set_option linter.unusedSimpArgs false
open Go.RowKit
def ownS (s l n x : Int) : ByteArray := if x < 0 ∨ totG s l n ≤ x then ⟨#[]⟩ else if x < 2 then ⟨#[115, 108, 111, 116]⟩ else if x < 2 + l then ⟨#[108, 111, 103]⟩ else ⟨#[115, 112, 97, 99, 101]⟩
theorem around_all (s l n x : Int) (h : OkG s l n) : (ownS s l n x = ⟨#[]⟩ ∧ aroundG x (allG s l n) = (0, 0)) ∨ (ownS s l n x = ⟨#[115, 108, 111, 116]⟩ ∧ (aroundG x (allG s l n) = (0, 1) ∨ aroundG x (allG s l n) = (1, 1))) ∨
    (ownS s l n x = ⟨#[108, 111, 103]⟩ ∧ aroundG x (allG s l n) = (2, l)) ∨ (ownS s l n x = ⟨#[115, 112, 97, 99, 101]⟩ ∧ (aroundG x (allG s l n) = (2 + l, oneG s n) ∨ aroundG x (allG s l n) = (2 + l + oneG s n, oneG s n))) := by
  obtain ⟨q1, q2⟩ := oneG_bd s n h.s1 h.s2 h.n1 h.n2
  have q3 := h.l1
  have q4 := h.l2
  unfold ownS totG allG aroundG aroundG aroundG aroundG aroundG aroundG
  simp only
  by_cases h0 : x < 0 ∨ 2 + l + 2 * oneG s n ≤ x
  · left
    rw [if_pos h0, if_neg (by omega), if_neg (by omega), if_neg (by omega), if_neg (by omega), if_neg (by omega)]
    exact ⟨rfl, rfl⟩
  · right
    rw [if_neg h0]
    by_cases h1 : x < 2
    · left
      rw [if_pos h1]
      refine ⟨rfl, ?_⟩
      by_cases h2 : x < 1
      · left; rw [if_pos (by omega)]
      · right; rw [if_neg (by omega), if_pos (by omega)]
    · right
      rw [if_neg h1]
      by_cases h2 : x < 2 + l
      · left
        rw [if_pos h2, if_neg (by omega), if_neg (by omega), if_pos (by omega)]
        exact ⟨rfl, rfl⟩
      · right
        rw [if_neg h2]
        refine ⟨rfl, ?_⟩
        by_cases h3 : x < 2 + l + oneG s n
        · left; rw [if_neg (by omega), if_neg (by omega), if_neg (by omega), if_pos (by omega)]
        · right; rw [if_neg (by omega), if_neg (by omega), if_neg (by omega), if_neg (by omega), if_pos (by omega)]
set_option maxHeartbeats 400000
end Go.Proofs.Ytjcpbhjmmnpjnaa
/- A region that ends in an operation that waits for all others (a store): by facts for those, and then that one. No conditions. -/
namespace Go.Proofs.Ytjcpbhjmmnpjnaa
set_option linter.unusedVariables false
set_option linter.unusedSimpArgs false
open Go.RowKit
section
variable {P : Program} {ops : Array Oper} {Q : Exit → Act → World → Prop} {G : World → World → Prop} {F : Nat → Value → World → Prop} {a0 : Act} {w0 : World}
def eldB (ops : Array Oper) (i : Nat) : Bool := match ops[i]? with
  | none => false
  | some o => o.after.all fun e => !Region.binds .any e || decide (e.on < i)
def ownB (ops : Array Oper) (m size i : Nat) : Bool := match dstOf ops i with
  | none => false
  | some d => decide (d < size) && (List.range m).all fun j => j == i || dstOf ops j != some d
/-- The checks of regB, of all but the last; that one waits for all. -/
def regTB (ops : Array Oper) (m size : Nat) : Bool :=
  ops.size == m + 1 && ((List.range m).all fun j => waitsB ops m j || (List.range m).any fun k => decide (j < k) && waitsB ops k j) && ((List.range (m + 1)).all fun i => eldB ops i) && (List.range m).all fun i => ownB ops m size i
theorem eldB_out {i : Nat} (h : eldB ops i = true) : ∃ o, ops[i]? = some o ∧ ∀ e ∈ o.after, Region.binds .any e = true → e.on < i := by
  unfold eldB at h
  cases ho : ops[i]? with
  | none => rw [ho] at h; cases h
  | some o =>
    rw [ho] at h
    refine ⟨o, rfl, fun e he hb => ?_⟩
    have := Array.all_eq_true_iff_forall_mem.1 h e he
    simpa [hb] using this
theorem ownB_out {m size i : Nat} (h : ownB ops m size i = true) : ∃ d, dstOf ops i = some d ∧ d < size ∧ ∀ j, j < m → j ≠ i → dstOf ops j ≠ some d := by
  unfold ownB at h
  cases hd : dstOf ops i with
  | none => rw [hd] at h; cases h
  | some d =>
    rw [hd] at h
    simp only [Bool.and_eq_true, decide_eq_true_eq, List.all_eq_true, List.mem_range, Bool.or_eq_true, beq_iff_eq, bne_iff_ne] at h
    refine ⟨d, rfl, h.1, fun j hj hne => ?_⟩
    rcases h.2 j hj with h | h
    · exact absurd h hne
    · exact h
theorem region_tail {id m : Nat} (hm : P.follows .mixedOrders = true) (hrefl : G w0 w0.drew) (htrans : ∀ a b c, G a b → G b c → G a c) (hmono : ∀ j, j < m → ∀ v a b, F j v a → G a b → F j v b)
    (hreg : regTB ops m a0.tmps.size = true) (howes : ∀ i, i < m → Owes P ops Q G F a0 w0 i)
    (fin : ∀ (vals : Nat → Value) (w : World), G w0 w → (∀ j, j < m → F j (vals j) w) → wpOp P ops Q m (fun a w => Q .normal a w) (putL ops vals (List.range m) a0) w) :
    (Code.region id ops true).wp P Q a0 w0 := by
  unfold regTB at hreg
  simp only [Bool.and_eq_true, beq_iff_eq, List.all_eq_true, List.mem_range] at hreg
  obtain ⟨⟨⟨hsize, hwaits⟩, held⟩, hown⟩ := hreg
  have getT : ∀ (l : Array Bool) (k : Nat) (b c : Bool), k < l.size → l.getD k b = l.getD k c := by
    intro l k b c hk
    rw [Array.getD_eq_getD_getElem?, Array.getD_eq_getD_getElem?, Array.getElem?_eq_getElem hk]; rfl
  have main : ∀ (fuel : Nat) (listed : Array Bool) (a : Act) (w : World), listed.size = ops.size → listed.getD m true = false →
      ((List.range ops.size).filter fun j => !listed.getD j true).length ≤ fuel →
      G w0 w → a.defers = a0.defers → a.tmps.size = a0.tmps.size →
      (∀ j, j < m → listed.getD j true = true → F j (valAt ops a j) w) →
      (∀ t, (∀ j, j < m → listed.getD j true = true → dstOf ops j ≠ some t) → a.tmps.getD t undef = a0.tmps.getD t undef) →
      (∀ j, j < m → listed.getD j true = true → ∀ k, waitsB ops j k = true → listed.getD k false = true) →
      wpAny P .any ops Q fuel listed a w := by
    intro fuel
    induction fuel with
    | zero =>
      intro listed a w hsz hun hcnt
      exfalso
      have : m ∈ (List.range ops.size).filter fun j => !listed.getD j true := List.mem_filter.2 ⟨List.mem_range.2 (by omega), by simp only [hun]; rfl⟩
      rw [List.eq_nil_of_length_eq_zero (Nat.le_zero.1 hcnt)] at this
      cases this
    | succ fuel ih =>
      intro listed a w hsz hun hcnt hG hd hs hF hR hC
      refine ⟨fun hr => ?_, fun i hi => ?_⟩
      · exfalso
        have up : ∀ j, j < m + 1 → listed.getD j true = true := by
          intro j
          induction j using Nat.strongRecOn with
          | ind j ihj =>
            intro hj
            cases hl : listed.getD j true with
            | true => rfl
            | false =>
              exfalso
              obtain ⟨o, ho, he⟩ := eldB_out (held j hj)
              have : j ∈ Region.ready .any ops listed := mem_ready.2 ⟨hl, o, ho, fun e hem hb => by
                have hlt := he e hem hb
                rw [getT _ _ false true (by omega)]
                exact ihj e.on hlt (by omega)⟩
              rw [hr] at this
              cases this
        rw [up m (by omega)] at hun
        cases hun
      · obtain ⟨hui, o, ho, hall⟩ := mem_ready.1 hi
        have hlt : i < ops.size := (Array.getElem?_eq_some_iff.1 ho).1
        have hlz : i < listed.size := by omega
        have hw : ∀ j, waitsB ops i j = true → j < ops.size ∧ listed.getD j true = true := by
          intro j hj
          obtain ⟨o', ho', e, he, hb, rfl⟩ := waits_some hj
          rw [ho] at ho'
          injection ho' with ho'
          subst ho'
          have h1 := hall e he hb
          rcases Nat.lt_or_ge e.on listed.size with hl | hl
          · refine ⟨by omega, ?_⟩
            rw [getT _ _ true false hl]
            exact h1
          · rw [Array.getD_eq_getD_getElem?, Array.getElem?_eq_none hl] at h1; cases h1
        have hset : ∀ j b, (listed.setIfInBounds i true).getD j b = if j = i then true else listed.getD j b := by
          intro j b
          rw [Array.getD_eq_getD_getElem?, Array.getD_eq_getD_getElem?, Array.getElem?_setIfInBounds]
          by_cases e : i = j
          · subst e; simp [hlz]
          · rw [if_neg e, if_neg (fun h => e h.symm)]
        by_cases him : i = m
        · subst him
          have hall2 : ∀ n j, j < i → i - j ≤ n → listed.getD j true = true := by
            intro n
            induction n with
            | zero => intro j hj hn; omega
            | succ n ihn =>
              intro j hj hn
              have h1 := hwaits j hj
              rw [Bool.or_eq_true] at h1
              rcases h1 with h1 | h1
              · exact (hw j h1).2
              · rw [List.any_eq_true] at h1
                obtain ⟨k, hk, hkj⟩ := h1
                rw [Bool.and_eq_true, decide_eq_true_eq] at hkj
                have hki := List.mem_range.1 hk
                rw [getT _ _ true false (by omega)]
                exact hC k hki (ihn k hki (by omega)) j hkj.2
          have hall' : ∀ j, j < i → listed.getD j true = true := fun j hj => hall2 (i - j) j hj (Nat.le_refl _)
          have h1 := fin (valAt ops a) w hG (fun j hj => hF j hj (hall' j hj))
          rw [putL_whole a (List.range i) a0 hs.symm hd.symm] at h1
          · refine wpOp_mono (fun a' w' hq => ?_) h1
            refine wpAny_done ?_ hq fuel
            apply List.eq_nil_iff_forall_not_mem.2
            intro j hj
            obtain ⟨h2, o2, ho2, _⟩ := mem_ready.1 hj
            have hj2 : j < ops.size := (Array.getElem?_eq_some_iff.1 ho2).1
            rw [hset] at h2
            by_cases e : j = i
            · rw [if_pos e] at h2; cases h2
            · rw [if_neg e, hall' j (by omega)] at h2; cases h2
          · intro t
            by_cases e : ∃ j, j < i ∧ dstOf ops j = some t
            · obtain ⟨j, hj, hjd⟩ := e
              exact .inr ⟨j, List.mem_range.2 hj, hjd⟩
            · left
              exact (hR t fun j hj _ he => e ⟨j, hj, he⟩).symm
        · have hi' : i < m := by omega
          obtain ⟨d, hdo, hdl, hdd⟩ := ownB_out (hown i hi')
          have hwm : ∀ j, waitsB ops i j = true → j < m := by
            intro j hj
            obtain ⟨o', ho', e, he, hb, rfl⟩ := waits_some hj
            obtain ⟨o2, ho2, he2⟩ := eldB_out (held i (by omega))
            rw [ho'] at ho2
            injection ho2 with ho2
            subst ho2
            have := he2 e he hb
            omega
          have hstep := howes i hi' a w hG hd hs (fun j hj => hF j (hwm j hj) (hw j hj).2) (fun t ht => hR t fun j hj hl he => by
            have h1 := hC j hj hl i (ht j he)
            rw [getT _ _ false true hlz, hui] at h1
            cases h1)
          refine wpOp_mono ?_ hstep
          rintro a' w' ⟨v, rfl, hg, hf⟩
          rw [hdo]
          refine ih (listed.setIfInBounds i true) (a.put (some d) v) w' (by simp [hsz]) (by rw [hset, if_neg (fun h => him h.symm)]; exact hun) ?_ (htrans _ _ _ hG hg) (by exact hd) (by rw [put_size, hs]) ?_ ?_ ?_
          · have := filter_less (p := fun j => !listed.getD j true) (q := fun j => !(listed.setIfInBounds i true).getD j true) (i := i) (l := List.range ops.size) (fun x hx => by
              rw [hset] at hx
              by_cases e : x = i
              · rw [if_pos e] at hx; cases hx
              · rw [if_neg e] at hx; exact hx) (List.mem_range.2 hlt) (by rw [hui]; rfl) (by rw [hset, if_pos rfl]; rfl)
            omega
          · intro j hj hl
            by_cases e : j = i
            · subst e
              unfold valAt
              rw [hdo]
              simp only
              rw [put_same _ _ _ (by rw [hs]; exact hdl)]
              exact hf
            · rw [hset, if_neg e] at hl
              have h1 := hmono j hj _ _ _ (hF j hj hl) hg
              have h2 : valAt ops (a.put (some d) v) j = valAt ops a j := by
                unfold valAt
                have hne := hdd j hj e
                cases hjd : dstOf ops j with
                | none => rfl
                | some dj =>
                  simp only
                  exact put_other _ _ _ _ (fun h => hne (by rw [hjd]; exact h.symm))
              rw [h2]
              exact h1
          · intro t ht
            have h1 : some d ≠ some t := fun h => ht i hi' (by rw [hset, if_pos rfl]) (by rw [hdo]; exact h)
            rw [put_other _ _ _ _ h1]
            exact hR t fun j hj hl => ht j hj (by rw [hset]; split <;> simp_all)
          · intro j hj hl k hk
            rw [hset]
            by_cases e : k = i
            · rw [if_pos e]
            · rw [if_neg e]
              by_cases e2 : j = i
              · subst e2
                have h1 := hw k hk
                rw [getT _ _ false true (by omega)]
                exact h1.2
              · rw [hset, if_neg e2] at hl
                exact hC j hj hl k hk
  refine wp_region_any hm ?_
  refine main ops.size (Array.replicate ops.size false) a0 w0.drew (by simp) ?_ ?_ hrefl rfl rfl ?_ ?_ ?_
  · rw [Array.getD_eq_getD_getElem?, Array.getElem?_eq_getElem (by simp; omega)]
    simp
  · exact Nat.le_trans (List.length_filter_le _ _) (by simp)
  · intro j hj hl
    rw [Array.getD_eq_getD_getElem?, Array.getElem?_eq_getElem (by simp; omega)] at hl
    simp at hl
  · intro t _; rfl
  · intro j hj hl
    rw [Array.getD_eq_getD_getElem?, Array.getElem?_eq_getElem (by simp; omega)] at hl
    simp at hl
/-- The last operation, by what it does alone. -/
theorem last_list {m : Nat} {d : Option Tmp} {op : Op} {type : TypeId} {a : Act} {w : World} (ho : (ops[m]?).map (fun o => (o.op, o.type)) = some (op, type)) (hdo : (ops[m]?).map (·.dst) = some d) (hg : (ops[m]?).bind (·.guard) = none)
    (h : wpList P #[{ dst := d, op, type, pos := "", after := #[], guard := none }] Q [{ dst := d, op, type, pos := "", after := #[], guard := none }] a w) : wpOp P ops Q m (fun a w => Q .normal a w) a w := by
  cases hi : ops[m]? with
  | none => rw [hi] at ho; cases ho
  | some o =>
    rw [hi] at ho hdo hg
    obtain ⟨dst, op', type', pos, after, guard⟩ := o
    simp only [Option.map_some, Option.some.injEq, Prod.mk.injEq] at ho hdo
    obtain ⟨rfl, rfl⟩ := ho
    subst hdo
    simp only [Option.bind_some] at hg
    subst hg
    unfold wpOp
    rw [hi]
    unfold wpList at h
    simp only [Region.wanted, if_true] at h ⊢
    have he : execOp a.eval { dst, op := op', type := type', pos, after, guard := none } = execOp a.eval { dst, op := op', type := type', pos := "", after := #[], guard := none } := by
      cases op' <;> rfl
    rcases h with h | ⟨h1, h2⟩
    · left
      unfold Oper.wp at h ⊢
      rw [he]
      exact h
    · right
      refine ⟨?_, h2⟩
      unfold Oper.asks at h1 ⊢
      rw [he]
      exact h1
/-- region_tail, by lists. -/
theorem region_by_tail {id m : Nat} (Fs : List (Value → World → Prop)) (ds : List Tmp)
    (hm : P.follows .mixedOrders = true) (hrefl : G w0 w0.drew) (htrans : ∀ a b c, G a b → G b c → G a c)
    (hreg : regTB ops m a0.tmps.size = true) (hds : (List.range' 0 m).map (dstOf ops) = ds.map some)
    (hmono : ∀ f ∈ Fs, ∀ v a b, f v a → G a b → f v b)
    (howes : AllN (Owes P ops Q G (fun j => Fs.getD j fun _ _ => True) a0 w0) m 0)
    (fin : ∀ (vals : Nat → Value) (w : World), G w0 w → (∀ j, j < m → (Fs.getD j fun _ _ => True) (vals j) w) → wpOp P ops Q m (fun a w => Q .normal a w) (putD vals ds 0 a0) w) :
    (Code.region id ops true).wp P Q a0 w0 := by
  refine region_tail (m := m) hm hrefl htrans ?_ hreg (fun i hi => howes.at_ _ _ i (by omega) (by omega)) ?_
  · intro j _ v a b h g
    rw [List.getD_eq_getElem?_getD] at h ⊢
    cases hj : Fs[j]? with
    | none => rw [hj] at h; exact trivial
    | some f => rw [hj] at h; exact hmono f (List.mem_of_getElem? hj) v a b h g
  · intro vals w hG hF
    rw [List.range_eq_range', putD_eq vals ds m 0 a0 hds]
    exact fin vals w hG hF
end
end Go.Proofs.Ytjcpbhjmmnpjnaa
/- What the functions of loamref4 answer of a geometry that may be. Conditions: it may be. -/
namespace Go.Proofs.Ytjcpbhjmmnpjnaa
set_option linter.unusedVariables false
set_option linter.unusedSimpArgs false
open Go.RowKit
def rparts (s n : Int) : Int := (n + s / 8 - 1) / (s / 8)
theorem rparts_eq (s n : Int) (h : 64 ≤ s) (h8 : s % 8 = 0) : rparts s n = (n * 8 + s - 1) / s := by
  obtain ⟨p, rfl⟩ : ∃ p, s = 8 * p := ⟨s / 8, by omega⟩
  unfold rparts
  rw [show 8 * p / 8 = p from by omega, ← Int.ediv_ediv_of_nonneg (by omega), show (n * 8 + 8 * p - 1) / 8 = n + p - 1 from by omega]
theorem oneR (s n : Int) (h : 64 ≤ s) (h8 : s % 8 = 0) : rparts s n + (n + 31) / 32 = oneG s n := by
  rw [rparts_eq s n h h8]
  unfold oneG
  omega
theorem tdivR (a b : Int) (h : 0 ≤ a) : a.tdiv b = a / b := Int.tdiv_eq_ediv_of_nonneg h
set_option maxHeartbeats 400000
theorem rone_r (Q : Exit → Act → World → Prop) (a0 : Act) (w : World) (g : Nat) (s l n p : Int) (hb : Bk w g 39 #[.int .i64 s, .int .i64 l, .int .i64 n]) (h1 : 8 ≤ p) (h2 : p ≤ 128) (h3 : 64 ≤ n) (h4 : n ≤ 8192) (hsum : Hid ((n + p - 1) / p + (n + 31) / 32 = oneG s n)) (q1 : 0 ≤ (n + p - 1) / p) (q2 : (n + p - 1) / p ≤ 2000) (hsz : a0.tmps.size = 19) (sl1 : a0.tmps.getD 1 undef = .pointer (some ⟨g, 0, none⟩)) (sl3 : a0.tmps.getD 3 undef = .int .i64 p)
    (fin : ∀ (vals : Nat → Value) (w1 : World), Below w.heap.size w w1 → (IsV (.int .i64 (oneG s n))) (vals 12) w1 → Q .normal (putD vals [7, 8, 9, 10, 11, 12, 13, 14, 15, 16, 17, 18, 2] 0 a0) w1) :
    (Code.region 2 (regIn Try.f52 2) true).wp Try.prog Q a0 w := by
  refine region_by (G := fun w w1 => Below w.heap.size w w1) [IsV (.pointer (some ⟨g, 2, none⟩)),
    IsV (.int .i64 n),
    IsV (.int .i64 p),
    IsV (.int .i64 (n + p)),
    IsV (.int .i64 (n + p - 1)),
    IsV (.int .i64 p),
    IsV (.int .i64 ((n + p - 1) / p)),
    IsV (.pointer (some ⟨g, 2, none⟩)),
    IsV (.int .i64 n),
    IsV (.int .i64 (n + 31)),
    IsV (.int .i64 ((n + 31) / 32)),
    IsV (.int .i64 (oneG s n)),
    IsV (.int .i64 (oneG s n))]
    [7, 8, 9, 10, 11, 12, 13, 14, 15, 16, 17, 18, 2] (by kernel_rfl) (Gw.drew _) Gw.trans (by rw [hsz]; kernel_rfl) (by kernel_rfl) ?_ ?_ ?_
  · intro f hf
    simp only [List.mem_cons, List.not_mem_nil, or_false] at hf
    rcases hf with rfl | rfl | rfl | rfl | rfl | rfl | rfl | rfl | rfl | rfl | rfl | rfl | rfl <;> intro v a b h g <;> first | exact IsV.mono h
  · refine ⟨?_, ?_, ?_, ?_, ?_, ?_, ?_, ?_, ?_, ?_, ?_, ?_, ?_, trivial⟩
    · refine owes_v (Go.Op.fieldAddr 39 (Go.Operand.tmp 1) 2) 0 [] (by kernel_rfl) (by kernel_rfl) (by kernel_rfl) rfl fun vals w1 ρ hG hF hρ hcst hfun => ?_
      have e1 : ρ (.tmp 1) = .pointer (some ⟨g, 0, none⟩) := ((hρ 1).trans (slotO [] (by kernel_rfl))).trans sl1
      clear hρ hF hcst hfun sl1 sl3 fin
      exact opv_val (by go_simp <;> rfl) ⟨gw_self _, rfl⟩
    · refine owes_v (Go.Op.load 3 (Go.Operand.tmp 7)) 3 [0] (by kernel_rfl) (by kernel_rfl) (by kernel_rfl) rfl fun vals w1 ρ hG hF hρ hcst hfun => ?_
      have e7 : ρ (.tmp 7) = .pointer (some ⟨g, 2, none⟩) := ((hρ 7).trans (slotJ [0] (by rw [hsz]; decide) (by kernel_rfl))).trans (hF 0 (by decide))
      have k := ((hb.below hG hb.lt).three).2.2
      clear hρ hF hcst hfun sl1 sl3 fin
      exact opv_val (by go_simp <;> rfl) ⟨gw_self _, rfl⟩
    · exact owes_mv 3 (by kernel_rfl) (by kernel_rfl) (by kernel_rfl) sl3 (fun _ => rfl)
    · refine owes_v (Go.Op.binOp Go.BinOp.add 3 (Go.Operand.tmp 8) (Go.Operand.tmp 9) 3) 3 [1, 2] (by kernel_rfl) (by kernel_rfl) (by kernel_rfl) rfl fun vals w1 ρ hG hF hρ hcst hfun => ?_
      have e8 : ρ (.tmp 8) = .int .i64 n := ((hρ 8).trans (slotJ [1, 2] (by rw [hsz]; decide) (by kernel_rfl))).trans (hF 1 (by decide))
      have e9 : ρ (.tmp 9) = .int .i64 p := ((hρ 9).trans (slotJ [1, 2] (by rw [hsz]; decide) (by kernel_rfl))).trans (hF 2 (by decide))
      have kw0 : IntKind.i64.wrap (n + p) = n + p := wrapIn (by omega) (by omega)
      clear hρ hF hcst hfun sl1 sl3 fin
      exact opv_val (by go_simp <;> rfl) ⟨gw_self _, rfl⟩
    · refine owes_v (Go.Op.binOp Go.BinOp.sub 3 (Go.Operand.tmp 10) (Go.Operand.const (Go.Value.int Go.IntKind.i64 1)) 3) 3 [3] (by kernel_rfl) (by kernel_rfl) (by kernel_rfl) rfl fun vals w1 ρ hG hF hρ hcst hfun => ?_
      have e10 : ρ (.tmp 10) = .int .i64 (n + p) := ((hρ 10).trans (slotJ [3] (by rw [hsz]; decide) (by kernel_rfl))).trans (hF 3 (by decide))
      have kw0 : IntKind.i64.wrap (n + p - 1) = n + p - 1 := wrapIn (by omega) (by omega)
      clear hρ hF hfun sl1 sl3 fin
      exact opv_val (by go_simp <;> rfl) ⟨gw_self _, rfl⟩
    · exact owes_mv 3 (by kernel_rfl) (by kernel_rfl) (by kernel_rfl) sl3 (fun _ => rfl)
    · refine owes_v (Go.Op.binOp Go.BinOp.quo 3 (Go.Operand.tmp 11) (Go.Operand.tmp 12) 3) 3 [4, 5] (by kernel_rfl) (by kernel_rfl) (by kernel_rfl) rfl fun vals w1 ρ hG hF hρ hcst hfun => ?_
      have e11 : ρ (.tmp 11) = .int .i64 (n + p - 1) := ((hρ 11).trans (slotJ [4, 5] (by rw [hsz]; decide) (by kernel_rfl))).trans (hF 4 (by decide))
      have e12 : ρ (.tmp 12) = .int .i64 p := ((hρ 12).trans (slotJ [4, 5] (by rw [hsz]; decide) (by kernel_rfl))).trans (hF 5 (by decide))
      have d0 : p ≠ 0 := by omega
      have d1 : (p == 0) = false := by simp; omega
      have d3 := tdivR (n + p - 1) p (by omega)
      have kw3 : IntKind.i64.wrap ((n + p - 1) / p) = (n + p - 1) / p := wrapIn (by omega) (by omega)
      clear hρ hF hcst hfun sl1 sl3 fin
      exact opv_val (by go_simp <;> rfl) ⟨gw_self _, rfl⟩
    · refine owes_v (Go.Op.fieldAddr 39 (Go.Operand.tmp 1) 2) 0 [] (by kernel_rfl) (by kernel_rfl) (by kernel_rfl) rfl fun vals w1 ρ hG hF hρ hcst hfun => ?_
      have e1 : ρ (.tmp 1) = .pointer (some ⟨g, 0, none⟩) := ((hρ 1).trans (slotO [] (by kernel_rfl))).trans sl1
      clear hρ hF hcst hfun sl1 sl3 fin
      exact opv_val (by go_simp <;> rfl) ⟨gw_self _, rfl⟩
    · refine owes_v (Go.Op.load 3 (Go.Operand.tmp 14)) 3 [7] (by kernel_rfl) (by kernel_rfl) (by kernel_rfl) rfl fun vals w1 ρ hG hF hρ hcst hfun => ?_
      have e14 : ρ (.tmp 14) = .pointer (some ⟨g, 2, none⟩) := ((hρ 14).trans (slotJ [7] (by rw [hsz]; decide) (by kernel_rfl))).trans (hF 7 (by decide))
      have k := ((hb.below hG hb.lt).three).2.2
      clear hρ hF hcst hfun sl1 sl3 fin
      exact opv_val (by go_simp <;> rfl) ⟨gw_self _, rfl⟩
    · refine owes_v (Go.Op.binOp Go.BinOp.add 3 (Go.Operand.tmp 15) (Go.Operand.const (Go.Value.int Go.IntKind.i64 31)) 3) 3 [8] (by kernel_rfl) (by kernel_rfl) (by kernel_rfl) rfl fun vals w1 ρ hG hF hρ hcst hfun => ?_
      have e15 : ρ (.tmp 15) = .int .i64 n := ((hρ 15).trans (slotJ [8] (by rw [hsz]; decide) (by kernel_rfl))).trans (hF 8 (by decide))
      have kw0 : IntKind.i64.wrap (n + 31) = n + 31 := wrapIn (by omega) (by omega)
      clear hρ hF hfun sl1 sl3 fin
      exact opv_val (by go_simp <;> rfl) ⟨gw_self _, rfl⟩
    · refine owes_v (Go.Op.binOp Go.BinOp.quo 3 (Go.Operand.tmp 16) (Go.Operand.const (Go.Value.int Go.IntKind.i64 32)) 3) 3 [9] (by kernel_rfl) (by kernel_rfl) (by kernel_rfl) rfl fun vals w1 ρ hG hF hρ hcst hfun => ?_
      have e16 : ρ (.tmp 16) = .int .i64 (n + 31) := ((hρ 16).trans (slotJ [9] (by rw [hsz]; decide) (by kernel_rfl))).trans (hF 9 (by decide))
      have d3 := tdivR (n + 31) 32 (by omega)
      have kw1 : IntKind.i64.wrap ((n + 31) / 32) = (n + 31) / 32 := wrapIn (by omega) (by omega)
      clear hρ hF hfun sl1 sl3 fin
      exact opv_val (by go_simp <;> rfl) ⟨gw_self _, rfl⟩
    · refine owes_v (Go.Op.binOp Go.BinOp.add 3 (Go.Operand.tmp 13) (Go.Operand.tmp 17) 3) 3 [6, 10] (by kernel_rfl) (by kernel_rfl) (by kernel_rfl) rfl fun vals w1 ρ hG hF hρ hcst hfun => ?_
      have e13 : ρ (.tmp 13) = .int .i64 ((n + p - 1) / p) := ((hρ 13).trans (slotJ [6, 10] (by rw [hsz]; decide) (by kernel_rfl))).trans (hF 6 (by decide))
      have e17 : ρ (.tmp 17) = .int .i64 ((n + 31) / 32) := ((hρ 17).trans (slotJ [6, 10] (by rw [hsz]; decide) (by kernel_rfl))).trans (hF 10 (by decide))
      have kw0 : IntKind.i64.wrap ((n + p - 1) / p + (n + 31) / 32) = (n + p - 1) / p + (n + 31) / 32 := wrapIn (by omega) (by omega)
      clear hρ hF hcst hfun sl1 sl3 fin
      exact opv_val (by go_simp <;> rfl) ⟨gw_self _, by show Value.int .i64 _ = Value.int .i64 _; rw [hsum.out]⟩
    · exact owes_mvj 11 18 (by kernel_rfl) (by kernel_rfl) (by kernel_rfl) (by kernel_rfl) (by rw [hsz]; decide) (fun v w h => h)
  · intro vals w1 hG hF
    exact fin vals w1 hG (hF 12 (by decide +kernel))
structure InB (s l n : Int) : Prop where
  s1 : 64 ≤ s
  s2 : s ≤ 1024
  s8 : s % 8 = 0
  l1 : 8 ≤ l
  l2 : l ≤ 1024
  n1 : 64 ≤ n
  n2 : n ≤ 8192
theorem OkG.inb {s l n : Int} (h : OkG s l n) : InB s l n := ⟨h.s1, h.s2, h.s8, h.l1, h.l2, h.n1, h.n2⟩
theorem part_bdR {l : Int} (s n : Int) (h : InB s l n) : 0 ≤ rparts s n ∧ rparts s n ≤ 1100 := by
  rw [rparts_eq s n h.s1 h.s8]
  exact part_bd s n h.s1 h.s2 h.n1 h.n2
theorem rone_c (s l n : Int) (w : World) (h : InB s l n) : Calls Try.prog 52 #[gV s l n] w (RetP (.int .i64 (oneG s n)) w) := by
  have h1 := h.s1
  have h2 := h.s2
  have h8 := h.s8
  have h3 := h.n1
  have h4 := h.n2
  obtain ⟨q1, q2⟩ := part_bdR s n h
  have HS := Lib.hid (oneR s n h.s1 h.s8)
  unfold rparts at HS q1 q2
  have hp : s / 8 = s / 8 := rfl
  obtain ⟨p, hp⟩ : ∃ p, p = s / 8 := ⟨_, rfl⟩
  have d3 : s.tdiv 8 = p := by rw [tdivR s 8 (by omega), hp]
  rw [← hp] at HS q1 q2
  have hp1 : 8 ≤ p := by omega
  have hp2 : p ≤ 128 := by omega
  have HP : Hid (s / 8 = p) := Lib.hid hp.symm
  unfold gV at *
  clear h h8 hp
  go_enter Try.func52, Try.ntmps52
  go_wp2_with fail
  refine rone_r _ _ _ w.heap.size s l n p (Bk.new w _ _) hp1 hp2 h3 h4 HS q1 (by omega) rfl rfl (by first | rfl | (show Value.int .i64 _ = _; rw [HP.out])) ?_
  intro vals w1 hG h5
  unfold IsV at h5
  simp only [putD, Act.put, List.setIfInBounds_toArray, List.set_cons_zero, List.set_cons_succ, h5]
  have hB : Below w.heap.size w w1 := (Gw.alloc w _).trans (hG.mono (by simp))
  clear h5 hG
  go_wp2
  go_ret
  exact ret_i rfl hB
theorem rsec_r (Q : Exit → Act → World → Prop) (a0 : Act) (w : World) (g : Nat) (s l n : Int) (hb : Bk w g 39 #[.int .i64 s, .int .i64 l, .int .i64 n]) (og : InB s l n) (q1 : 0 ≤ oneG s n) (q2 : oneG s n ≤ 1400) (q3 : 8 ≤ l) (q4 : l ≤ 1024) (hsz : a0.tmps.size = 10) (sl1 : a0.tmps.getD 1 undef = .pointer (some ⟨g, 0, none⟩))
    (fin : ∀ (vals : Nat → Value) (w1 : World), Below w.heap.size w w1 → (IsV (.int .i64 (totG s l n))) (vals 7) w1 → Q .normal (putD vals [3, 4, 5, 6, 7, 8, 9, 2] 0 a0) w1) :
    (Code.region 1 (regIn Try.f31 1) true).wp Try.prog Q a0 w := by
  refine region_by (G := fun w w1 => Below w.heap.size w w1) [IsV (.pointer (some ⟨g, 1, none⟩)),
    IsV (.int .i64 l),
    IsV (.int .i64 (2 + l)),
    IsV (gV s l n),
    IsV (.int .i64 (oneG s n)),
    IsV (.int .i64 (2 * oneG s n)),
    IsV (.int .i64 (totG s l n)),
    IsV (.int .i64 (totG s l n))]
    [3, 4, 5, 6, 7, 8, 9, 2] (by kernel_rfl) (Gw.drew _) Gw.trans (by rw [hsz]; kernel_rfl) (by kernel_rfl) ?_ ?_ ?_
  · intro f hf
    simp only [List.mem_cons, List.not_mem_nil, or_false] at hf
    rcases hf with rfl | rfl | rfl | rfl | rfl | rfl | rfl | rfl <;> intro v a b h g <;> first | exact IsV.mono h
  · refine ⟨?_, ?_, ?_, ?_, ?_, ?_, ?_, ?_, trivial⟩
    · refine owes_v (Go.Op.fieldAddr 39 (Go.Operand.tmp 1) 1) 0 [] (by kernel_rfl) (by kernel_rfl) (by kernel_rfl) rfl fun vals w1 ρ hG hF hρ hcst hfun => ?_
      have e1 : ρ (.tmp 1) = .pointer (some ⟨g, 0, none⟩) := ((hρ 1).trans (slotO [] (by kernel_rfl))).trans sl1
      clear hρ hF hcst hfun sl1 fin
      exact opv_val (by go_simp <;> rfl) ⟨gw_self _, rfl⟩
    · refine owes_v (Go.Op.load 3 (Go.Operand.tmp 3)) 3 [0] (by kernel_rfl) (by kernel_rfl) (by kernel_rfl) rfl fun vals w1 ρ hG hF hρ hcst hfun => ?_
      have e3 : ρ (.tmp 3) = .pointer (some ⟨g, 1, none⟩) := ((hρ 3).trans (slotJ [0] (by rw [hsz]; decide) (by kernel_rfl))).trans (hF 0 (by decide))
      have k := ((hb.below hG hb.lt).three).2.1
      clear hρ hF hcst hfun sl1 fin
      exact opv_val (by go_simp <;> rfl) ⟨gw_self _, rfl⟩
    · refine owes_v (Go.Op.binOp Go.BinOp.add 3 (Go.Operand.const (Go.Value.int Go.IntKind.i64 2)) (Go.Operand.tmp 4) 3) 3 [1] (by kernel_rfl) (by kernel_rfl) (by kernel_rfl) rfl fun vals w1 ρ hG hF hρ hcst hfun => ?_
      have e4 : ρ (.tmp 4) = .int .i64 l := ((hρ 4).trans (slotJ [1] (by rw [hsz]; decide) (by kernel_rfl))).trans (hF 1 (by decide))
      have kw0 : IntKind.i64.wrap (2 + l) = 2 + l := wrapIn (by omega) (by omega)
      clear hρ hF hfun sl1 fin
      exact opv_val (by go_simp <;> rfl) ⟨gw_self _, rfl⟩
    · refine owes_v (Go.Op.load 39 (Go.Operand.tmp 1)) 39 [] (by kernel_rfl) (by kernel_rfl) (by kernel_rfl) rfl fun vals w1 ρ hG hF hρ hcst hfun => ?_
      have e1 : ρ (.tmp 1) = .pointer (some ⟨g, 0, none⟩) := ((hρ 1).trans (slotO [] (by kernel_rfl))).trans sl1
      obtain ⟨k1, k2, k3⟩ := (hb.below hG hb.lt).three
      clear hρ hF hcst hfun sl1 fin
      exact opv_val (by go_simp <;> rfl) ⟨gw_self _, rfl⟩
    · refine owes_v (Go.Op.call { callee := Go.Callee.value (Go.Operand.func 52), args := #[Go.Operand.tmp 6], argTypes := #[39] }) 3 [3] (by kernel_rfl) (by kernel_rfl) (by kernel_rfl) rfl fun vals w1 ρ hG hF hρ hcst hfun => ?_
      have e6 : ρ (.tmp 6) = gV s l n := ((hρ 6).trans (slotJ [3] (by rw [hsz]; decide) (by kernel_rfl))).trans (hF 3 (by decide))
      clear hρ hF hcst sl1 fin
      exact opv_enter (by go_simp <;> rfl) (of_ret (rone_c s l n w1 og))
    · refine owes_v (Go.Op.binOp Go.BinOp.mul 3 (Go.Operand.const (Go.Value.int Go.IntKind.i64 2)) (Go.Operand.tmp 7) 3) 3 [4] (by kernel_rfl) (by kernel_rfl) (by kernel_rfl) rfl fun vals w1 ρ hG hF hρ hcst hfun => ?_
      have e7 : ρ (.tmp 7) = .int .i64 (oneG s n) := ((hρ 7).trans (slotJ [4] (by rw [hsz]; decide) (by kernel_rfl))).trans (hF 4 (by decide))
      have kw0 : IntKind.i64.wrap (2 * oneG s n) = 2 * oneG s n := wrapIn (by omega) (by omega)
      clear hρ hF hfun sl1 fin
      exact opv_val (by go_simp <;> rfl) ⟨gw_self _, rfl⟩
    · refine owes_v (Go.Op.binOp Go.BinOp.add 3 (Go.Operand.tmp 5) (Go.Operand.tmp 8) 3) 3 [2, 5] (by kernel_rfl) (by kernel_rfl) (by kernel_rfl) rfl fun vals w1 ρ hG hF hρ hcst hfun => ?_
      have e5 : ρ (.tmp 5) = .int .i64 (2 + l) := ((hρ 5).trans (slotJ [2, 5] (by rw [hsz]; decide) (by kernel_rfl))).trans (hF 2 (by decide))
      have e8 : ρ (.tmp 8) = .int .i64 (2 * oneG s n) := ((hρ 8).trans (slotJ [2, 5] (by rw [hsz]; decide) (by kernel_rfl))).trans (hF 5 (by decide))
      have kw0 : IntKind.i64.wrap (2 + l + 2 * oneG s n) = 2 + l + 2 * oneG s n := wrapIn (by omega) (by omega)
      clear hρ hF hcst hfun sl1 fin
      exact opv_val (by go_simp <;> rfl) ⟨gw_self _, rfl⟩
    · exact owes_mvj 6 9 (by kernel_rfl) (by kernel_rfl) (by kernel_rfl) (by kernel_rfl) (by rw [hsz]; decide) (fun v w h => h)
  · intro vals w1 hG hF
    exact fin vals w1 hG (hF 7 (by decide +kernel))
theorem rsec_c (s l n : Int) (w : World) (h : InB s l n) : Calls Try.prog 31 #[gV s l n] w (RetP (.int .i64 (totG s l n)) w) := by
  have q3 := h.l1
  have q4 := h.l2
  obtain ⟨q1, q2⟩ := oneG_bd s n h.s1 h.s2 h.n1 h.n2
  have HO := Lib.hid h
  unfold gV at *
  clear h
  go_enter Try.func31, Try.ntmps31
  go_wp2_with fail
  refine rsec_r _ _ _ w.heap.size s l n (Bk.new w _ _) HO.out q1 q2 q3 q4 rfl rfl ?_
  intro vals w1 hG h5
  unfold IsV at h5
  simp only [putD, Act.put, List.setIfInBounds_toArray, List.set_cons_zero, List.set_cons_succ, h5]
  have hB : Below w.heap.size w w1 := (Gw.alloc w _).trans (hG.mono (by simp))
  clear h5 hG
  go_wp2
  go_ret
  exact ret_i rfl hB
end Go.Proofs.Ytjcpbhjmmnpjnaa
/- What Word, Check, Owner of loamref4 and the helpers of loamlaw4 answer. Conditions: as named. -/
namespace Go.Proofs.Ytjcpbhjmmnpjnaa
set_option linter.unusedVariables false
set_option linter.unusedSimpArgs false
open Go.RowKit
theorem wordP (s k : Int) (h : 64 ≤ s) (h8 : s % 8 = 0) : k / (s / 8) = k * 8 / s ∧ 8 * (k % (s / 8)) = k * 8 % s := by
  obtain ⟨p, rfl⟩ : ∃ p, s = 8 * p := ⟨s / 8, by omega⟩
  rw [show 8 * p / 8 = p from by omega, show k * 8 = 8 * k from by omega, Int.mul_ediv_mul_of_pos k p (by omega), Int.mul_emod_mul_of_pos k p (by omega)]
  exact ⟨rfl, rfl⟩
set_option maxHeartbeats 400000
theorem of_c (s l n : Int) (w : World) : Calls Try.prog 32 #[gV s l n] w (RetP (gV s l n) w) := by
  unfold gV
  go_enter Try.func32, Try.ntmps32
  go_wp2
  exact bodyPost_ret (v := .agg #[.int .i64 s, .int .i64 l, .int .i64 n]) (by simp [results, Try.results32, go_sem]) rfl ⟨rfl, (by repeat (first | with_reducible assumption | with_reducible exact Below.refl _ _ | with_reducible apply bdN | with_reducible apply Below.drew | with_reducible refine Below.alloc ?_ (by simp) _ | with_reducible refine Below.setCell ?_ (by simp) _))⟩
end Go.Proofs.Ytjcpbhjmmnpjnaa
/- What Check, Owner of loamref4 answer. Conditions: as named. -/
namespace Go.Proofs.Ytjcpbhjmmnpjnaa
set_option linter.unusedVariables false
set_option linter.unusedSimpArgs false
open Go.RowKit
set_option maxHeartbeats 400000
set_option maxRecDepth 100000
theorem rcheck_c (s l n : Int) (w : World) : Calls Try.prog 34 #[gV s l n] w (RetP (.int .i64 (chkG s l n)) w) := by
  unfold gV
  by_cases h : inG s l n
  · obtain ⟨⟨h1, h2, h3⟩, h4, h5, h6, h7⟩ := h
    have t1 : decide (s < 64) = false := by simp; omega
    have t2 : decide (1024 < s) = false := by simp; omega
    have t3 : (s % 8 != 0) = false := by simp; omega
    have t4 : decide (l < 8) = false := by simp; omega
    have t5 : decide (1024 < l) = false := by simp; omega
    have t6 : decide (n < 64) = false := by simp; omega
    have t7 : decide (8192 < n) = false := by simp; omega
    have hin : inG s l n := ⟨⟨h1, h2, h3⟩, h4, h5, h6, h7⟩
    have HIN := Lib.hid hin
    have H3 := Lib.hid h3
    clear hin h3
    by_cases ht : totG s l n ≤ 16384
    · have hc : chkG s l n = 0 := by unfold chkG okG; rw [decide_eq_true (⟨HIN.out, ht⟩ : inG s l n ∧ totG s l n ≤ 16384)]; rfl
      rw [hc]
      have t8 : decide (16384 < totG s l n) = false := by simp; omega
      clear hc
      go_enter Try.func34, Try.ntmps34
      go_wp2_with fail
      refine (rsec_c s l n _ ⟨h1, h2, H3.out, h4, h5, h6, h7⟩).mono ?_
      rintro e w1 ⟨rfl, hb1⟩
      go_wp2_with fail
      go_ret
      exact ret_i rfl ((Gw.alloc w _).trans (hb1.mono (by simp)))
    · have hc : chkG s l n = 1 := by unfold chkG okG; rw [decide_eq_false (fun h : inG s l n ∧ totG s l n ≤ 16384 => ht h.2)]; rfl
      rw [hc]
      have t8 : decide (16384 < totG s l n) = true := by simp; omega
      clear hc
      go_enter Try.func34, Try.ntmps34
      go_wp2_with fail
      refine (rsec_c s l n _ ⟨h1, h2, H3.out, h4, h5, h6, h7⟩).mono ?_
      rintro e w1 ⟨rfl, hb1⟩
      go_wp2_with fail
      go_ret
      exact ret_i rfl ((Gw.alloc w _).trans (hb1.mono (by simp)))
  · have hc : chkG s l n = 1 := by unfold chkG; rw [okG_no h]; rfl
    rw [hc]
    have h' : ¬ ((64 ≤ s ∧ s ≤ 1024 ∧ s % 8 = 0) ∧ 8 ≤ l ∧ l ≤ 1024 ∧ 64 ≤ n ∧ n ≤ 8192) := h
    clear hc h
    by_cases ha : 64 ≤ s ∧ s ≤ 1024
    · obtain ⟨ha1, ha2⟩ := ha
      have t1 : decide (s < 64) = false := by simp; omega
      have t2 : decide (1024 < s) = false := by simp; omega
      by_cases h8 : s % 8 = 0
      · have t3 : (s % 8 != 0) = false := by simp; omega
        have hq : l < 8 ∨ 1024 < l ∨ n < 64 ∨ 8192 < n := by omega
        clear h' h8
        go_enter Try.func34, Try.ntmps34
        go_wp2_with fail
        all_goals first
          | (exfalso; omega)
          | (go_ret; exact ret_i rfl (Gw.alloc w _))
      · have t3 : (s % 8 != 0) = true := by simp; omega
        clear h' h8
        go_enter Try.func34, Try.ntmps34
        go_wp2_with fail
        go_ret
        exact ret_i rfl (Gw.alloc w _)
    · have hq : s < 64 ∨ 1024 < s := by omega
      clear h' ha
      rcases hq with hq | hq
      · have t1 : decide (s < 64) = true := by simp; omega
        go_enter Try.func34, Try.ntmps34
        go_wp2_with fail
        go_ret
        exact ret_i rfl (Gw.alloc w _)
      · have t1 : decide (s < 64) = false := by simp; omega
        have t2 : decide (1024 < s) = true := by simp; omega
        go_enter Try.func34, Try.ntmps34
        go_wp2_with fail
        go_ret
        exact ret_i rfl (Gw.alloc w _)
end Go.Proofs.Ytjcpbhjmmnpjnaa
/- What crc.Right answers. Conditions: at most 2^30 bytes. -/
namespace Go.Proofs.Ytjcpbhjmmnpjnaa
set_option linter.unusedVariables false
set_option linter.unusedSimpArgs false
open Go.RowKit
def right4 (xs : List (BitVec 8)) (y0 y1 y2 y3 : BitVec 8) : Bool := (addC (0#32) xs).setWidth 8 == y0 && (((addC (0#32) xs) >>> 8).setWidth 8 == y1 && (((addC (0#32) xs) >>> 16).setWidth 8 == y2 && ((addC (0#32) xs) >>> 24).setWidth 8 == y3))
theorem spot_add (a : Addr) (n j : Nat) (h : j ≠ 0) : (⟨(a.add n).block, (a.add n).off + j, none⟩ : Addr) = a.add (n + j) := by
  unfold Addr.add; by_cases k : n = 0 <;> simp [h, k, Nat.add_assoc]
theorem heldC {xs : List (BitVec 8)} {y0 y1 y2 y3 : BitVec 8} {ad : Addr} {w W1 w2 : World} (h : W1.cell? (ad.add xs.length) = some (.int .u8 (U8 y0)) ∧ W1.cell? ⟨(ad.add xs.length).block, (ad.add xs.length).off + 1, none⟩ = some (.int .u8 (U8 y1)) ∧ W1.cell? ⟨(ad.add xs.length).block, (ad.add xs.length).off + 2, none⟩ = some (.int .u8 (U8 y2)) ∧ W1.cell? ⟨(ad.add xs.length).block, (ad.add xs.length).off + 3, none⟩ = some (.int .u8 (U8 y3)) ∧ Rd b8 W1 w.heap.size (some ad) xs ∧ ad.block < w.heap.size ∧ w.heap.size ≤ W1.heap.size ∧ Below w.heap.size w W1) (hb : Below W1.heap.size W1 w2) : w2.cell? (ad.add xs.length) = some (.int .u8 (U8 y0)) ∧ w2.cell? ⟨(ad.add xs.length).block, (ad.add xs.length).off + 1, none⟩ = some (.int .u8 (U8 y1)) ∧ w2.cell? ⟨(ad.add xs.length).block, (ad.add xs.length).off + 2, none⟩ = some (.int .u8 (U8 y2)) ∧ w2.cell? ⟨(ad.add xs.length).block, (ad.add xs.length).off + 3, none⟩ = some (.int .u8 (U8 y3)) ∧ Rd b8 w2 w.heap.size (some ad) xs ∧ ad.block < w.heap.size ∧ w.heap.size ≤ w2.heap.size ∧ Below w.heap.size w w2 := by
  obtain ⟨a0, a1, a2, a3, h4, h5, h6, h7⟩ := h
  exact ⟨(hb.cell (p := ad.add xs.length) (by rw [add_block]; omega)).trans a0, (hb.cell (p := ⟨(ad.add xs.length).block, (ad.add xs.length).off + 1, none⟩) (by show (ad.add xs.length).block < _; rw [add_block]; omega)).trans a1, (hb.cell (p := ⟨(ad.add xs.length).block, (ad.add xs.length).off + 2, none⟩) (by show (ad.add xs.length).block < _; rw [add_block]; omega)).trans a2, (hb.cell (p := ⟨(ad.add xs.length).block, (ad.add xs.length).off + 3, none⟩) (by show (ad.add xs.length).block < _; rw [add_block]; omega)).trans a3,
    h4.below (hb.mono h6), h5, Nat.le_trans h6 hb.size, h7.trans (hb.mono h6)⟩
theorem heldR {xs : List (BitVec 8)} {y0 y1 y2 y3 : BitVec 8} {ad : Addr} {w W1 : World} (h : W1.cell? (ad.add xs.length) = some (.int .u8 (U8 y0)) ∧ W1.cell? ⟨(ad.add xs.length).block, (ad.add xs.length).off + 1, none⟩ = some (.int .u8 (U8 y1)) ∧ W1.cell? ⟨(ad.add xs.length).block, (ad.add xs.length).off + 2, none⟩ = some (.int .u8 (U8 y2)) ∧ W1.cell? ⟨(ad.add xs.length).block, (ad.add xs.length).off + 3, none⟩ = some (.int .u8 (U8 y3)) ∧ Rd b8 W1 w.heap.size (some ad) xs ∧ ad.block < w.heap.size ∧ w.heap.size ≤ W1.heap.size ∧ Below w.heap.size w W1) : Rd b8 W1 W1.heap.size (some ad) xs := h.2.2.2.2.1.more h.2.2.2.2.2.2.1
attribute [local go_sem] beqU8
theorem eq4 (a0 a1 a2 a3 y0 y1 y2 y3 : BitVec 8) (W : World) : (Op.equalIn 10000 107 (.agg #[.int .u8 (U8 a0), .int .u8 (U8 a1), .int .u8 (U8 a2), .int .u8 (U8 a3)]) (.agg #[.int .u8 (U8 y0), .int .u8 (U8 y1), .int .u8 (U8 y2), .int .u8 (U8 y3)])).run Try.prog W = .ok (a0 == y0 && (a1 == y1 && (a2 == y2 && a3 == y3))) W := by
  have u3 := Try.underlying5
  have ia := Try.isAgg5
  have z3 := Try.sizeOf5
  rw [show (10000 : Nat) = 9999 + 1 from rfl, Op.equalIn]
  simp only [Sem.run_bind, run_underlying Try.underlying107, Result.andThen_ok]
  simp only [Std.Legacy.Range.forIn_eq_forIn_range', Std.Legacy.Range.size, Nat.sub_zero, Nat.add_sub_cancel, Nat.div_one, List.range'_succ, List.range'_zero, List.forIn_cons, List.forIn_nil]
  go_simp
  by_cases h1 : a0 = y0 <;> by_cases h2 : a1 = y1 <;> by_cases h3 : a2 = y2 <;> by_cases h4 : a3 = y3 <;> simp [h1, h2, h3, h4, beqU8]
set_option maxHeartbeats 800000
set_option maxRecDepth 100000
theorem right_c (xs : List (BitVec 8)) (y0 y1 y2 y3 : BitVec 8) (A : Option Addr) (c : Nat) (w : World) (hr : Rd b8 w w.heap.size A (xs ++ [y0, y1, y2, y3])) (hcap : xs.length + 4 ≤ c) (hl : xs.length ≤ 1073741824) :
    Calls Try.prog 45 #[.slice A (xs.length + 4) c] w (RetP (.bool (right4 xs y0 y1 y2 y3)) w) := by
  obtain ⟨ad, rfl, hbl, hcell⟩ := hr.addr (by simp)
  have q0 : w.cell? (ad.add xs.length) = some (.int .u8 (U8 y0)) := by rw [hcell xs.length (by simp)]; simp [b8]
  have q1 : w.cell? ⟨(ad.add xs.length).block, (ad.add xs.length).off + 1, none⟩ = some (.int .u8 (U8 y1)) := by rw [spot_add _ _ _ (by decide), hcell _ (by simp)]; simp [b8]
  have q2 : w.cell? ⟨(ad.add xs.length).block, (ad.add xs.length).off + 2, none⟩ = some (.int .u8 (U8 y2)) := by rw [spot_add _ _ _ (by decide), hcell _ (by simp)]; simp [b8]
  have q3 : w.cell? ⟨(ad.add xs.length).block, (ad.add xs.length).off + 3, none⟩ = some (.int .u8 (U8 y3)) := by rw [spot_add _ _ _ (by decide), hcell _ (by simp)]; simp [b8]
  have hxs : Rd b8 w w.heap.size (some ad) xs := by
    have := hr.take xs.length
    simpa using this
  clear hcell hr
  go_enter Try.func45, Try.ntmps45
  go_wp2_with fail
  have hS : w.cell? (ad.add xs.length) = some (.int .u8 (U8 y0)) ∧ w.cell? ⟨(ad.add xs.length).block, (ad.add xs.length).off + 1, none⟩ = some (.int .u8 (U8 y1)) ∧ w.cell? ⟨(ad.add xs.length).block, (ad.add xs.length).off + 2, none⟩ = some (.int .u8 (U8 y2)) ∧ w.cell? ⟨(ad.add xs.length).block, (ad.add xs.length).off + 3, none⟩ = some (.int .u8 (U8 y3)) ∧ Rd b8 w w.heap.size (some ad) xs ∧ ad.block < w.heap.size ∧ w.heap.size ≤ w.heap.size ∧ Below w.heap.size w w := ⟨q0, q1, q2, q3, hxs, hbl, Nat.le_refl _, Below.refl _ _⟩
  clear q0 q1 q2 q3
  have hcx : ¬ c = xs.length := by omega
  have hc1 : (xs.length : Int) ≤ (c : Int) := by omega
  have hc2 : (0 : Int) ≤ (xs.length : Int) := by omega
  have hc4 : (xs.length : Int) ≤ (xs.length : Int) + 4 := by omega
  have hc3 : (xs.length : Int) ≤ ((xs.length + 4 : Nat) : Int) := by omega
  have harr : ∀ W : World, (Instr.arrayAt 107 (.slice (some (ad.add xs.length)) 4 (c - xs.length))).run Try.prog W = .ok (.pointer (some (ad.add xs.length))) W := fun W => run_arrayAt W _ _ 4 _ _ _ Try.underlying107 (by decide)
  have hq : ∀ W : World, (Op.equalIn 10000 107 (.agg #[.int .u8 (U8 ((addC (0#32) xs).setWidth 8)), .int .u8 (U8 ((addC (0#32) xs >>> 8).setWidth 8)), .int .u8 (U8 ((addC (0#32) xs >>> 16).setWidth 8)), .int .u8 (U8 ((addC (0#32) xs >>> 24).setWidth 8))]) (.agg #[.int .u8 (U8 y0), .int .u8 (U8 y1), .int .u8 (U8 y2), .int .u8 (U8 y3)])).run Try.prog W = .ok (right4 xs y0 y1 y2 y3) W := fun W => eq4 _ _ _ _ _ _ _ _ W
  go_region_held3 (fun w' => w'.cell? (ad.add xs.length) = some (.int .u8 (U8 y0)) ∧ w'.cell? ⟨(ad.add xs.length).block, (ad.add xs.length).off + 1, none⟩ = some (.int .u8 (U8 y1)) ∧ w'.cell? ⟨(ad.add xs.length).block, (ad.add xs.length).off + 2, none⟩ = some (.int .u8 (U8 y2)) ∧ w'.cell? ⟨(ad.add xs.length).block, (ad.add xs.length).off + 3, none⟩ = some (.int .u8 (U8 y3)) ∧ Rd b8 w' w.heap.size (some ad) xs ∧ ad.block < w.heap.size ∧ w.heap.size ≤ w'.heap.size ∧ Below w.heap.size w w')
    (first
      | assumption
      | exact heldC hS (Below.drew (Below.refl _ _))
      | exact heldC hS (Below.drew (Below.alloc (Below.refl _ _) (Nat.le_refl _) _))
      | (refine heldC ?_ hb5; assumption)
      | (refine heldC ?_ (Below.alloc (Below.refl _ _) (Nat.le_refl _) _); assumption)
      | go_keep)
    (first
      | (go_at_call 63; refine (sum1_c xs (some ad) c w.heap.size _ 22 (Bk.drew (Bk.new w _ _)) (heldR (heldC hS (Below.drew (Below.alloc (Below.refl _ _) (Nat.le_refl _) _)))) (by omega)).mono ?_; rintro e w5 ⟨rfl, hb5⟩)
      | (go_at_call 62; refine (tail_c _ _).mono ?_; rintro e w5 ⟨rfl, hb5⟩))
  all_goals
    go_wp2_with fail
    go_ret
    have hH : w5.cell? (ad.add xs.length) = some (.int .u8 (U8 y0)) ∧ w5.cell? ⟨(ad.add xs.length).block, (ad.add xs.length).off + 1, none⟩ = some (.int .u8 (U8 y1)) ∧ w5.cell? ⟨(ad.add xs.length).block, (ad.add xs.length).off + 2, none⟩ = some (.int .u8 (U8 y2)) ∧ w5.cell? ⟨(ad.add xs.length).block, (ad.add xs.length).off + 3, none⟩ = some (.int .u8 (U8 y3)) ∧ Rd b8 w5 w.heap.size (some ad) xs ∧ ad.block < w.heap.size ∧ w.heap.size ≤ w5.heap.size ∧ Below w.heap.size w w5 := by assumption
    exact ⟨rfl, hH.2.2.2.2.2.2.2⟩
end Go.Proofs.Ytjcpbhjmmnpjnaa
/- The register of crc is linear; it is the bitwise one; a bit's turn can be undone. No conditions. -/
namespace Go.Proofs.Ytjcpbhjmmnpjnaa
set_option linter.unusedVariables false
set_option linter.unusedSimpArgs false
open Go.RowKit
def bitC (r : BitVec 32) : BitVec 32 := if r.getLsbD 0 then (r >>> 1) ^^^ 0xEDB88320#32 else r >>> 1
def bitsC : Nat → BitVec 32 → BitVec 32
  | 0, r => r
  | n + 1, r => bitsC n (bitC r)
theorem xor_swap (a b c d : BitVec 32) : (a ^^^ b) ^^^ (c ^^^ d) = (a ^^^ c) ^^^ (b ^^^ d) := by
  rw [BitVec.xor_assoc, ← BitVec.xor_assoc b c d, BitVec.xor_comm b c, BitVec.xor_assoc c b d, ← BitVec.xor_assoc]
theorem shr_xor {n : Nat} (a b : BitVec n) (k : Nat) : (a ^^^ b) >>> k = (a >>> k) ^^^ (b >>> k) := by
  apply BitVec.eq_of_getLsbD_eq; intro i hi; simp
theorem set_xor (a b : BitVec 8) : (a ^^^ b).setWidth 32 = a.setWidth 32 ^^^ b.setWidth 32 := by
  apply BitVec.eq_of_getLsbD_eq; intro i hi; simp [hi]
/-- The n lowest bits. -/
def low_ {m : Nat} (n : Nat) (r : BitVec m) : BitVec m := r &&& (BitVec.allOnes m >>> (m - n))
theorem low_bit {m : Nat} (n : Nat) (hn : n ≤ m) (r : BitVec m) (i : Nat) : (low_ n r).getLsbD i = (r.getLsbD i && decide (i < n)) := by
  unfold low_
  rw [BitVec.getLsbD_and, BitVec.getLsbD_ushiftRight, BitVec.getLsbD_allOnes]
  congr 1
  rw [decide_eq_decide]; omega
theorem low_zero {m : Nat} (r : BitVec m) : low_ 0 r = 0#m := by
  apply BitVec.eq_of_getLsbD_eq; intro i hi; rw [low_bit 0 (by omega)]; simp
theorem low_all {m : Nat} (r : BitVec m) : low_ m r = r := by
  apply BitVec.eq_of_getLsbD_eq; intro i hi; rw [low_bit m (by omega)]; simp [hi]
theorem low_succ {m : Nat} (n : Nat) (hn : n < m) (r : BitVec m) : low_ (n + 1) r = low_ n r ^^^ (if r.getLsbD n then BitVec.twoPow m n else 0#m) := by
  apply BitVec.eq_of_getLsbD_eq
  intro i hi
  rw [low_bit _ (by omega), BitVec.getLsbD_xor, low_bit _ (by omega)]
  by_cases h : i = n
  · subst h
    by_cases hb : r.getLsbD i = true
    · rw [if_pos hb, BitVec.getLsbD_twoPow]; simp [hb, hi]
    · rw [if_neg hb]; simp at hb; simp [hb]
  · have e : (if r.getLsbD n then BitVec.twoPow m n else 0#m).getLsbD i = false := by
      split
      · rw [BitVec.getLsbD_twoPow]; simp; omega
      · simp
    rw [e, Bool.xor_false]
    congr 1
    rw [decide_eq_decide]; omega
/-- Two linear maps that agree on each single bit agree. -/
theorem lin_ext {m k : Nat} (f g : BitVec m → BitVec k) (hf : ∀ a b, f (a ^^^ b) = f a ^^^ f b) (hg : ∀ a b, g (a ^^^ b) = g a ^^^ g b)
    (h : ∀ i : Fin m, f (BitVec.twoPow m i.val) = g (BitVec.twoPow m i.val)) (r : BitVec m) : f r = g r := by
  have f0 : f 0#m = 0#k := by have := hf 0#m 0#m; simpa using this
  have g0 : g 0#m = 0#k := by have := hg 0#m 0#m; simpa using this
  have key : ∀ n, n ≤ m → f (low_ n r) = g (low_ n r) := by
    intro n
    induction n with
    | zero => intro _; rw [low_zero, f0, g0]
    | succ n ih =>
      intro hn
      rw [low_succ n (by omega), hf, hg, ih (by omega)]
      congr 1
      split
      · exact h ⟨n, by omega⟩
      · rw [f0, g0]
  have := key m (Nat.le_refl _)
  rwa [low_all] at this
theorem bitC_xor (r s : BitVec 32) : bitC (r ^^^ s) = bitC r ^^^ bitC s := by
  unfold bitC
  rw [BitVec.getLsbD_xor, shr_xor]
  cases r.getLsbD 0 <;> cases s.getLsbD 0
  · simp
  · simp [BitVec.xor_assoc]
  · simp only [Bool.xor_false, if_true, Bool.false_eq_true, if_false]
    rw [BitVec.xor_assoc, BitVec.xor_comm (s >>> 1), ← BitVec.xor_assoc]
  · simp only [Bool.xor_self, if_true, Bool.false_eq_true, if_false]
    rw [xor_swap, BitVec.xor_self, BitVec.xor_zero]
theorem bitsC_xor (n : Nat) : ∀ r s : BitVec 32, bitsC n (r ^^^ s) = bitsC n r ^^^ bitsC n s := by
  induction n with
  | zero => intro r s; rfl
  | succ n ih => intro r s; show bitsC n (bitC (r ^^^ s)) = _; rw [bitC_xor, ih]; rfl
theorem bitsC_add (a b : Nat) (r : BitVec 32) : bitsC (a + b) r = bitsC b (bitsC a r) := by
  induction a generalizing r with
  | zero => rw [Nat.zero_add]; rfl
  | succ n ih => rw [show n + 1 + b = (n + b) + 1 from by omega]; exact ih (bitC r)
theorem tab1_xor (i j : Nat) (hi : i < 16) (hj : j < 16) : tab1 (i ^^^ j) = tab1 i ^^^ tab1 j := by
  have h : ∀ i j : Fin 16, tab1 (i.val ^^^ j.val) = tab1 i.val ^^^ tab1 j.val := by decide +kernel
  exact h ⟨i, hi⟩ ⟨j, hj⟩
theorem idx_xor (r s : BitVec 32) : idx (r ^^^ s) = idx r ^^^ idx s := by
  unfold idx
  rw [← BitVec.toNat_xor]
  congr 1
  apply BitVec.eq_of_getLsbD_eq; intro i hi; simp only [BitVec.getLsbD_and, BitVec.getLsbD_xor]
  cases (15#32).getLsbD i <;> simp
theorem turnC_xor (r s : BitVec 32) : turnC (r ^^^ s) = turnC r ^^^ turnC s := by
  unfold turnC
  rw [idx_xor, tab1_xor _ _ (idx_lt _) (idx_lt _), shr_xor, xor_swap]
theorem turnC_bits (r : BitVec 32) : turnC r = bitsC 4 r := lin_ext turnC (bitsC 4) turnC_xor (bitsC_xor 4) (by decide +kernel) r
theorem stepC_bits (r : BitVec 32) (x : BitVec 8) : stepC r x = bitsC 8 (r ^^^ x.setWidth 32) := by
  unfold stepC
  rw [turnC_bits, turnC_bits, ← bitsC_add]
theorem stepC_xor (r s : BitVec 32) (x y : BitVec 8) : stepC (r ^^^ s) (x ^^^ y) = stepC r x ^^^ stepC s y := by
  rw [stepC_bits, stepC_bits, stepC_bits, set_xor, xor_swap, bitsC_xor]
def undoC (r : BitVec 32) : BitVec 32 := (r <<< 1) ^^^ (if r.getLsbD 31 then 0xDB710641#32 else 0#32)
theorem shl_xor (a b : BitVec 32) : (a ^^^ b) <<< 1 = (a <<< 1) ^^^ (b <<< 1) := by
  apply BitVec.eq_of_getLsbD_eq; intro i hi; simp only [BitVec.getLsbD_shiftLeft, BitVec.getLsbD_xor]
  cases decide (i < 32) <;> cases decide (i < 1) <;> simp
theorem undoC_xor (r s : BitVec 32) : undoC (r ^^^ s) = undoC r ^^^ undoC s := by
  unfold undoC
  rw [BitVec.getLsbD_xor, shl_xor]
  cases r.getLsbD 31 <;> cases s.getLsbD 31
  · simp
  · simp [BitVec.xor_assoc]
  · simp only [Bool.xor_false, if_true, Bool.false_eq_true, if_false, BitVec.xor_zero]
    rw [BitVec.xor_assoc, BitVec.xor_comm (s <<< 1), ← BitVec.xor_assoc]
  · simp only [Bool.xor_self, if_true, Bool.false_eq_true, if_false]
    rw [xor_swap, BitVec.xor_self]
theorem undo_bit (r : BitVec 32) : undoC (bitC r) = r :=
  lin_ext (fun r => undoC (bitC r)) (fun r => r) (fun a b => by rw [bitC_xor, undoC_xor]) (fun a b => rfl) (by decide +kernel) r
theorem bitsC_inj (n : Nat) : ∀ {r s : BitVec 32}, bitsC n r = bitsC n s → r = s := by
  induction n with
  | zero => intro r s h; exact h
  | succ n ih =>
    intro r s h
    have := ih (show bitsC n (bitC r) = bitsC n (bitC s) from h)
    rw [← undo_bit r, ← undo_bit s, this]
theorem bitsC_zero (n : Nat) : bitsC n 0#32 = 0#32 := by
  have := bitsC_xor n 0#32 0#32
  simpa using this
theorem fold_xor : ∀ (xs ys : List (BitVec 8)) (r s : BitVec 32), xs.length = ys.length →
    (xs.zipWith (· ^^^ ·) ys).foldl stepC (r ^^^ s) = xs.foldl stepC r ^^^ ys.foldl stepC s
  | [], [], r, s, _ => rfl
  | x :: xs, y :: ys, r, s, h => by
    rw [List.zipWith_cons_cons, List.foldl_cons, List.foldl_cons, List.foldl_cons, stepC_xor]
    exact fold_xor xs ys _ _ (by simpa using h)
theorem fold_zeros (n : Nat) : ∀ r : BitVec 32, (List.replicate n 0#8).foldl stepC r = bitsC (8 * n) r := by
  induction n with
  | zero => intro r; rfl
  | succ n ih =>
    intro r
    rw [List.replicate_succ, List.foldl_cons, ih, show stepC r 0#8 = bitsC 8 r from by rw [stepC_bits]; congr 1; simp, ← bitsC_add]
    congr 1; omega
theorem not_xor (a b : BitVec 32) : ~~~ a ^^^ b = ~~~ (a ^^^ b) := by
  apply BitVec.eq_of_getLsbD_eq; intro i hi; simp [hi]
theorem addC_append (s : BitVec 32) (a b : List (BitVec 8)) : addC s (a ++ b) = addC (addC s a) b := by
  unfold addC
  rw [List.foldl_append, BitVec.not_not]
theorem sumC_flat (ls : List (List (BitVec 8))) (s : BitVec 32) : ls.foldl addC s = addC s ls.flatten := by
  induction ls generalizing s with
  | nil => simp [addC]
  | cons a l ih => rw [List.foldl_cons, ih, List.flatten_cons, addC_append]
/-- What three sums tell of that of a difference. -/
theorem addC_xor3 (xs ys : List (BitVec 8)) (h : xs.length = ys.length) :
    addC 0#32 (xs.zipWith (· ^^^ ·) ys) = (addC 0#32 xs ^^^ addC 0#32 ys) ^^^ addC 0#32 (List.replicate xs.length 0#8) := by
  unfold addC
  have h1 := fold_xor (xs.zipWith (· ^^^ ·) ys) (List.replicate xs.length 0#8) (~~~ 0#32 ^^^ ~~~ 0#32) (~~~ 0#32) (by simp; omega)
  have h2 := fold_xor xs ys (~~~ 0#32) (~~~ 0#32) h
  have e : List.zipWith (· ^^^ ·) (xs.zipWith (· ^^^ ·) ys) (List.replicate xs.length 0#8) = xs.zipWith (· ^^^ ·) ys := by
    apply List.ext_getElem
    · simp [h]
    · intro i h1 h2; simp
  rw [e, h2, show ~~~ (0#32 : BitVec 32) ^^^ ~~~ 0#32 ^^^ ~~~ 0#32 = ~~~ 0#32 from by decide +kernel] at h1
  rw [h1]
  generalize List.foldl stepC (~~~0#32) xs = a
  generalize List.foldl stepC (~~~0#32) ys = b
  generalize List.foldl stepC (~~~0#32) (List.replicate xs.length 0#8) = c
  apply BitVec.eq_of_getLsbD_eq; intro i hi; simp [hi]
/-- One bit among zero bytes. -/
def oneB (n q : Nat) : List (BitVec 8) := (List.replicate n 0#8).set (q / 8) (1#8 <<< (q % 8))
theorem oneB_len (n q : Nat) : (oneB n q).length = n := by simp [oneB]
theorem fold_one (n q : Nat) (h : q < 8 * n) : (oneB n q).foldl stepC 0#32 = bitsC (8 * n - q) 1#32 := by
  have e : oneB n q = List.replicate (q / 8) 0#8 ++ (1#8 <<< (q % 8)) :: List.replicate (n - q / 8 - 1) 0#8 := by
    unfold oneB
    apply List.ext_getElem
    · simp; omega
    · intro i h1 h2
      rw [List.getElem_set, List.getElem_append]
      simp only [List.length_replicate, List.getElem_replicate]
      by_cases a : q / 8 = i
      · subst a; simp
      · rw [if_neg a]
        by_cases b : i < q / 8
        · rw [dif_pos b]
        · rw [dif_neg b, List.getElem_cons, dif_neg (by omega)]
          try simp
  rw [e, List.foldl_append, fold_zeros, bitsC_zero, List.foldl_cons, fold_zeros]
  have k : ∀ t : Fin 8, stepC 0#32 (1#8 <<< t.val) = bitsC (8 - t.val) 1#32 := by decide +kernel
  rw [k ⟨q % 8, by omega⟩, ← bitsC_add]
  congr 1
  simp only
  omega
theorem bits32_one : ∀ t : Fin 32, bitsC 32 (BitVec.twoPow 32 t.val) = bitsC (32 - t.val) 1#32 := by decide +kernel
/-- Byte by byte, b with the pattern's first n bits turned at k. -/
def turned (bs : List (BitVec 8)) (p : BitVec 32) (k : Nat) : Nat → List (BitVec 8)
  | 0 => bs
  | n + 1 => if p.getLsbD n then (turned bs p k n).set ((k + n) / 8) ((turned bs p k n).getD ((k + n) / 8) 0 ^^^ 1#8 <<< ((k + n) % 8)) else turned bs p k n
theorem turned_len (bs : List (BitVec 8)) (p : BitVec 32) (k n : Nat) : (turned bs p k n).length = bs.length := by
  induction n with
  | zero => rfl
  | succ n ih => unfold turned; split <;> simp [ih]
theorem set_as_xor (xs : List (BitVec 8)) (q : Nat) (h : q < 8 * xs.length) : xs.set (q / 8) (xs.getD (q / 8) 0 ^^^ 1#8 <<< (q % 8)) = xs.zipWith (· ^^^ ·) (oneB xs.length q) := by
  apply List.ext_getElem
  · simp [oneB]
  · intro i h1 h2
    have hi : i < xs.length := by simpa using h1
    rw [List.getElem_set, List.getElem_zipWith]
    unfold oneB
    rw [List.getElem_set]
    by_cases a : q / 8 = i
    · subst a
      rw [if_pos rfl, if_pos rfl, List.getD_eq_getElem?_getD, List.getElem?_eq_getElem hi]; rfl
    · rw [if_neg a, if_neg a]; simp
theorem fold_turned (bs : List (BitVec 8)) (p : BitVec 32) (k n : Nat) (hn : n ≤ 32) (hk : k + 32 ≤ 8 * bs.length) :
    (turned bs p k n).foldl stepC (~~~ 0#32) = bs.foldl stepC (~~~ 0#32) ^^^ bitsC (8 * bs.length - k - 32) (bitsC 32 (low_ n p)) := by
  induction n with
  | zero => rw [low_zero, bitsC_zero, bitsC_zero, BitVec.xor_zero]; rfl
  | succ n ih =>
    have ih := ih (by omega)
    unfold turned
    rw [low_succ n (by omega)]
    by_cases hb : p.getLsbD n = true
    · rw [if_pos hb, if_pos hb, set_as_xor _ _ (by rw [turned_len]; omega), turned_len]
      have h1 := fold_xor (turned bs p k n) (oneB bs.length (k + n)) (~~~ 0#32) 0#32 (by rw [turned_len, oneB_len])
      rw [BitVec.xor_zero] at h1
      rw [h1, ih, fold_one _ _ (by omega), bitsC_xor, bitsC_xor, BitVec.xor_assoc]
      congr 2
      rw [bits32_one ⟨n, by omega⟩, ← bitsC_add]
      congr 1
      simp only
      omega
    · rw [if_neg hb, if_neg hb, BitVec.xor_zero]
      exact ih
theorem turned_ne (bs : List (BitVec 8)) (p : BitVec 32) (k : Nat) (hk : k + 32 ≤ 8 * bs.length) (hp : p ≠ 0#32) : addC 0#32 (turned bs p k 32) ≠ addC 0#32 bs := by
  intro h
  unfold addC at h
  rw [fold_turned bs p k 32 (Nat.le_refl _) hk, low_all] at h
  have h2 := congrArg (fun x => ~~~ x) h
  simp only [BitVec.not_not] at h2
  generalize List.foldl stepC (~~~0#32) bs = a at h2
  have h3 : bitsC (8 * bs.length - k - 32) (bitsC 32 p) = 0#32 := by
    have := congrArg (fun x => a ^^^ x) h2
    simp only [← BitVec.xor_assoc, BitVec.xor_self, BitVec.zero_xor] at this
    exact this
  rw [← bitsC_zero (8 * bs.length - k - 32)] at h3
  have h4 := bitsC_inj _ h3
  rw [← bitsC_zero 32] at h4
  exact hp (bitsC_inj _ h4)
end Go.Proofs.Ytjcpbhjmmnpjnaa
