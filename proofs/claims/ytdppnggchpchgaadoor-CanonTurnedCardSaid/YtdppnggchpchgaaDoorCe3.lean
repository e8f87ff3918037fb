/- Texts joined: RegU GrQ GrY CaB CaC CaD CaE GvD. -/
import Derived.Test.YtdppnggchpchgaaDoorCe2
import Derived.Test.YtdppnggchpchgaaDoorRegT
import Derived.Test.YtdppnggchpchgaaDoorGrP
import Derived.Test.YtdppnggchpchgaaDoorGrG
import Derived.Test.YtdppnggchpchgaaDoorMmA
/- As RegS, but the last of the row waits for all others, and behind it nothing is asked of the world. No conditions. -/
namespace Go.Proofs.YtdppnggchpchgaaDoor
set_option linter.unusedVariables false
set_option linter.unusedSimpArgs false
open Go.RowKit
section
variable {P : Program} {ops : Array Oper} {Q : Exit → Act → World → Prop} {a0 : Act} {w0 : World}
/-- Operations one behind the other; W holds of each world between, but for the last. -/
def SpineU (P : Program) (ops : Array Oper) (Q : Exit → Act → World → Prop) (W : World → Prop) : List Nat → Act → World → Prop
  | [], a, w => Q .normal a w
  | i :: is, a, w => ∃ o, ops[i]? = some o ∧ o.guard = none ∧ Oper.wp P o a w (fun a' w' => a'.defers = a.defers ∧ (is ≠ [] → W w') ∧ SpineU P ops Q W is a' w') NoQ
/-- One of the row, as straight code. -/
theorem spineU_list {i : Nat} {is : List Nat} {W : World → Prop} {d : Option Tmp} {op : Op} {type : TypeId} {a : Act} {w : World} (ho : (ops[i]?).map (fun o => (o.op, o.type)) = some (op, type)) (hdo : (ops[i]?).map (·.dst) = some d) (hg : (ops[i]?).bind (·.guard) = none)
    (h : wpList P #[{ dst := d, op, type, pos := "", after := #[], guard := none }] (SpineQ a.defers (fun w => is ≠ [] → W w) (SpineU P ops Q W is)) [{ dst := d, op, type, pos := "", after := #[], guard := none }] a w) : SpineU P ops Q W (i :: is) a w := by
  cases hi : ops[i]? with
  | none => rw [hi] at ho; cases ho
  | some o =>
    rw [hi] at ho hdo hg
    obtain ⟨dst, op', type', pos, after, guard⟩ := o
    simp only [Option.map_some, Option.some.injEq, Prod.mk.injEq] at ho hdo
    obtain ⟨rfl, rfl⟩ := ho
    subst hdo
    simp only [Option.bind_some] at hg
    subst hg
    refine ⟨_, hi, rfl, ?_⟩
    unfold wpList at h
    simp only [Region.wanted, if_true] at h
    have he : execOp a.eval { dst, op := op', type := type', pos, after, guard := none } = execOp a.eval { dst, op := op', type := type', pos := "", after := #[], guard := none } := by
      cases op' <;> rfl
    rcases h with h | ⟨_, h2⟩
    · unfold Oper.wp at h ⊢
      rw [he]
      generalize (execOp a.eval { dst, op := op', type := type', pos := "", after := #[], guard := none }).run P w = r at *
      cases r with
      | ok n w' =>
        cases n <;> simp only [Oper.upon, wpList] at h ⊢
        case value u => exact h
        case skip => exact h
        case defer u => exact h
        case enter f args =>
          refine Calls.mono h fun e w'' he => ?_
          cases e with
          | returned u => exact he
          | panicked c => exact he.elim
          | outgrown => obtain ⟨_, _, hf⟩ := he; exact hf.elim
        case row row args => exact h
      | halt x w' =>
        cases x <;> simp only [Oper.upon] at h ⊢
        case panic u => exact h.elim
    · obtain ⟨_, _, h3⟩ := h2
      exact h3.elim
def plainB (ops : Array Oper) (i : Nat) : Bool := match ops[i]? with
  | none => true
  | some o => match o.op with | .defer _ => false | .select .. => false | _ => true
/-- The checks of regB, of all but the last, which leaves nothing in a slot. -/
def regUB (ops : Array Oper) (m size : Nat) : Bool :=
  ops.size == m + 1 && ((List.range (m + 1)).all fun i => eldB ops i) && ((List.range m).all fun i => ownB ops m size i) && (dstOf ops m).isNone && (List.range (m + 1)).all fun i => plainB ops i
theorem region_spineU {id m : Nat} (sp fl : List Nat) (c : Nat → Value) (W : World → Prop) (hm : P.follows .mixedOrders = true) (hreg : regUB ops m a0.tmps.size = true) (hmsp : m ∈ sp) (hsp : spineB ops sp fl = true) (hne : sp ≠ []) (hlw : ∀ l ∈ sp.getLast?, ∀ i ∈ fl, waitsB ops l i = true) (hW : W w0.drew)
    (hF : ∀ i ∈ fl, ∀ w, W w → ∃ o, ops[i]? = some o ∧ (execOp (putL ops c fl a0).eval o).run P w = .ok (.value (c i)) w)
    (fin : SpineU P ops Q W sp (putL ops c fl a0) w0.drew) : (Code.region id ops true).wp P Q a0 w0 := by
  unfold spineB at hsp
  simp only [Bool.and_eq_true, List.all_eq_true, List.mem_range, decide_eq_true_eq, Bool.or_eq_true, List.contains_iff_mem, Bool.not_eq_true', Bool.not_eq_eq_eq_not, Bool.not_true] at hsp
  obtain ⟨⟨⟨⟨⟨⟨hch, hcov⟩, hfl⟩, hspl⟩, hnd⟩, hfo⟩, hso⟩ := hsp
  have hflsp : ∀ j ∈ fl, j ∉ sp := fun j hj h => by
    have := (hfl j hj).1.1.1
    rw [List.contains_eq_mem] at this
    simp [h] at this
  have getT : ∀ (l : Array Bool) (k : Nat) (b c : Bool), k < l.size → l.getD k b = l.getD k c := by
    intro l k b c hk
    rw [Array.getD_eq_getD_getElem?, Array.getD_eq_getD_getElem?, Array.getElem?_eq_getElem hk]; rfl
  unfold regUB at hreg
  simp only [Bool.and_eq_true, beq_iff_eq, List.all_eq_true, List.mem_range, Option.isNone_iff_eq_none] at hreg
  obtain ⟨⟨⟨⟨hsize, held⟩, hown⟩, hmn⟩, hplain⟩ := hreg
  have hflm : ∀ j ∈ fl, j ≠ m := fun j hj e => hflsp j hj (by rw [e]; exact hmsp)
  have hdst : ∀ i, i < ops.size → i ≠ m → ∃ d, dstOf ops i = some d ∧ d < a0.tmps.size ∧ ∀ j, j < ops.size → j ≠ i → dstOf ops j ≠ some d := by
    intro i hi him
    obtain ⟨d, hd, hdl, hdd⟩ := ownB_out (hown i (by omega))
    refine ⟨d, hd, hdl, fun j hj hne => ?_⟩
    by_cases e : j = m
    · rw [e, hmn]; exact fun h => by cases h
    · exact hdd j (by omega) hne
  have hA0 : ∀ j ∈ fl, valAt ops (putL ops c fl a0) j = c j := by
    intro j hj
    obtain ⟨d, hd, hdl, _⟩ := hdst j (hfl j hj).1.1.2 (hflm j hj)
    have hs := (hfl j hj).2
    unfold slotsB at hs
    rw [hd] at hs
    unfold valAt
    rw [hd]
    exact slotJ fl hdl hs
  have hout : ∀ t, (∀ j ∈ fl, dstOf ops j ≠ some t) → (putL ops c fl a0).tmps.getD t undef = a0.tmps.getD t undef := by
    intro t ht
    exact slotO fl (List.all_eq_true.2 fun k hk => by simpa using ht k hk)
  have main : ∀ (fuel : Nat) (listed : Array Bool) (a : Act) (w : World) (dn rest : List Nat) (A : Act), listed.size = ops.size →
      ((List.range ops.size).filter fun j => !listed.getD j true).length ≤ fuel →
      (rest ≠ [] → W w) → SpineU P ops Q W rest A w → sp = dn ++ rest → (∀ i ∈ dn, listed.getD i true = true) → (∀ i ∈ rest, listed.getD i true = false) → a.defers = A.defers → a.tmps.size = A.tmps.size → A.tmps.size = a0.tmps.size →
      (∀ j ∈ fl, valAt ops A j = c j) → (∀ t, (∀ j ∈ dn, dstOf ops j ≠ some t) → (∀ j ∈ fl, dstOf ops j ≠ some t) → A.tmps.getD t undef = a0.tmps.getD t undef) → (∀ j ∈ dn, ∀ k, waitsB ops j k = true → listed.getD k true = true) →
      (∀ t, a.tmps.getD t undef = A.tmps.getD t undef ∨ ∃ j ∈ fl, listed.getD j true = false ∧ dstOf ops j = some t) →
      wpAny P .any ops Q fuel listed a w := by
    intro fuel
    have allUp : ∀ (listed : Array Bool), listed.size = ops.size → Region.ready .any ops listed = [] → ∀ j, j < ops.size → listed.getD j true = true := by
      intro listed hsz hr j
      induction j using Nat.strongRecOn with
      | ind j ih =>
        intro hj
        cases hl : listed.getD j true with
        | true => rfl
        | false =>
          exfalso
          obtain ⟨o, ho, he⟩ := eldB_out (held j (by omega))
          have : j ∈ Region.ready .any ops listed := mem_ready.2 ⟨hl, o, ho, fun e hem hb => by
            have hlt := he e hem hb
            have := ih e.on hlt (by omega)
            rw [Array.getD_eq_getD_getElem?] at this ⊢
            rw [Array.getElem?_eq_getElem (by omega)] at this ⊢
            exact this⟩
          rw [hr] at this
          cases this
    have done : ∀ (listed : Array Bool) (a : Act) (w : World) (dn rest : List Nat) (A : Act), (∀ j, j < ops.size → listed.getD j true = true) → SpineU P ops Q W rest A w → sp = dn ++ rest → (∀ i ∈ rest, listed.getD i true = false) →
        a.defers = A.defers → a.tmps.size = A.tmps.size → (∀ t, a.tmps.getD t undef = A.tmps.getD t undef ∨ ∃ j ∈ fl, listed.getD j true = false ∧ dstOf ops j = some t) → Q .normal a w := by
      intro listed a w dn rest A hall hS hdn hrest hd hs hrel
      cases rest with
      | cons i is =>
        have h1 := hrest i (.head _)
        rw [hall i (hspl i (by rw [hdn]; simp))] at h1
        cases h1
      | nil =>
        have h1 := putL_whole (ops := ops) A [] a hs hd (fun t => by
          rcases hrel t with h | ⟨j, hj, h1, _⟩
          · exact .inl h
          · rw [hall j (hfl j hj).1.1.2] at h1; cases h1)
        unfold putL at h1
        rw [h1]
        exact hS
    induction fuel with
    | zero =>
      intro listed a w dn rest A hsz hcnt hw hS hdn hdl hrest hd hs hs0 hv ho hC hrel
      have hall : ∀ j, j < ops.size → listed.getD j true = true := by
        intro j hj
        cases hl : listed.getD j true with
        | true => rfl
        | false =>
          have : j ∈ (List.range ops.size).filter fun j => !listed.getD j true := List.mem_filter.2 ⟨List.mem_range.2 hj, by simp only [hl]; rfl⟩
          rw [List.eq_nil_of_length_eq_zero (Nat.le_zero.1 hcnt)] at this
          cases this
      refine ⟨?_, done listed a w dn rest A hall hS hdn hrest hd hs hrel⟩
      apply List.eq_nil_iff_forall_not_mem.2
      intro j hj
      obtain ⟨h1, o, ho, _⟩ := mem_ready.1 hj
      have hlt : j < ops.size := (Array.getElem?_eq_some_iff.1 ho).1
      rw [hall j hlt] at h1
      cases h1
    | succ fuel ih =>
      intro listed a w dn rest A hsz hcnt hw hS hdn hdl hrest hd hs hs0 hv ho hC hrel
      refine ⟨fun hr => done listed a w dn rest A (allUp listed hsz hr) hS hdn hrest hd hs hrel, fun i hi => ?_⟩
      obtain ⟨hui, o, hoi, hall⟩ := mem_ready.1 hi
      have hlt : i < ops.size := (Array.getElem?_eq_some_iff.1 hoi).1
      have hlz : i < listed.size := by omega
      have hwt : ∀ j, waitsB ops i j = true → listed.getD j true = true := by
        intro j hj
        obtain ⟨o', ho', e, he, hb, rfl⟩ := waits_some hj
        rw [hoi] at ho'
        injection ho' with ho'
        subst ho'
        have h1 := hall e he hb
        rcases Nat.lt_or_ge e.on listed.size with hl | hl
        · rw [getT _ _ true false hl]
          exact h1
        · rw [Array.getD_eq_getD_getElem?, Array.getElem?_eq_none hl] at h1; cases h1
      have hset : ∀ j b, (listed.setIfInBounds i true).getD j b = if j = i then true else listed.getD j b := by
        intro j b
        rw [Array.getD_eq_getD_getElem?, Array.getD_eq_getD_getElem?, Array.getElem?_setIfInBounds]
        by_cases e : i = j
        · subst e; simp [hlz]
        · rw [if_neg e, if_neg (fun h => e h.symm)]
      have hcnt' : ((List.range ops.size).filter fun j => !(listed.setIfInBounds i true).getD j true).length ≤ fuel := by
        have := filter_less (p := fun j => !listed.getD j true) (q := fun j => !(listed.setIfInBounds i true).getD j true) (i := i) (l := List.range ops.size) (fun x hx => by
          rw [hset] at hx
          by_cases e : x = i
          · rw [if_pos e] at hx; cases hx
          · rw [if_neg e] at hx; exact hx) (List.mem_range.2 hlt) (by rw [hui]; rfl) (by rw [hset, if_pos rfl]; rfl)
        omega
      have hops : operandsOf ops i = o.op.operands.toList.filterMap fun | .tmp t => some t | _ => none := by unfold operandsOf; simp only [hoi]; try rfl
      have hndf : match o.op with | .defer _ => False | .select .. => False | _ => True := by
        have h2 := hplain i (by omega)
        unfold plainB at h2
        simp only [hoi] at h2
        revert h2
        cases o.op <;> simp
      have hcong : ∀ B : Act, (∀ t ∈ operandsOf ops i, B.tmps.getD t undef = a.tmps.getD t undef) → execOp B.eval o = execOp a.eval o := by
        intro B hB
        refine execOp_congr o (fun cs b e => by rw [e] at hndf; exact hndf) fun x hx => ?_
        cases x with
        | tmp t => exact hB t (by rw [hops]; exact List.mem_filterMap.2 ⟨.tmp t, by simpa using hx, rfl⟩)
        | _ => rfl
      by_cases him : i = m
      · have hf1 : i ∉ fl := fun h => hflm i h him
        have hdn0 : o.dst = none := by
          have h2 := hmn
          rw [← him] at h2
          unfold dstOf at h2
          rw [hoi] at h2
          exact h2
        have hput : ∀ (B : Act) (v : Value), B.put o.dst v = B := fun B v => by rw [hdn0]; rfl
        have hs1 : i ∈ sp := by
          rcases hcov i hlt with h | h
          · exact h
          · exact absurd h hf1
        have hhead : ∃ is, rest = i :: is := by
          have hmem : i ∈ dn ++ rest := by rw [← hdn]; exact hs1
          rcases List.mem_append.1 hmem with h | h
          · rw [hdl i h] at hui; cases hui
          · cases rest with
            | nil => cases h
            | cons x is =>
              by_cases e : i = x
              · exact ⟨is, by rw [e]⟩
              · exfalso
                have hmi : i ∈ is := by
                  rcases List.mem_cons.1 h with h | h
                  · exact absurd h e
                  · exact h
                obtain ⟨u, t, hut⟩ := List.append_of_mem hmi
                obtain ⟨pre, y, hy⟩ : ∃ pre y, x :: u = pre ++ [y] := ⟨(x :: u).dropLast, (x :: u).getLast (by simp), (List.dropLast_concat_getLast (by simp)).symm⟩
                have hsp2 : sp = (dn ++ pre) ++ y :: i :: t := by
                  rw [hdn, hut, ← List.cons_append, hy]
                  simp
                have hwy : waitsB ops i y = true := chain_at (d := dn ++ pre) (l := t) (by rw [← hsp2]; exact hch)
                have hyr : y ∈ x :: is := by
                  rw [hut, ← List.cons_append, hy]
                  simp
                have := hrest y hyr
                rw [hwt y hwy] at this
                cases this
        obtain ⟨is, rfl⟩ := hhead
        obtain ⟨o3, ho3, hg, hwp⟩ := hS
        rw [hoi] at ho3
        injection ho3 with ho3
        subst ho3
        have hAa : ∀ t ∈ operandsOf ops i, A.tmps.getD t undef = a.tmps.getD t undef := by
          intro t ht
          rcases hrel t with h3 | ⟨k, hk, h3, h4⟩
          · exact h3.symm
          · exfalso
            rcases hso i hs1 t ht k hk with h | h
            · exact absurd h4 (by simpa using h)
            · rw [hwt k h] at h3; cases h3
        unfold wpOp
        rw [hoi]
        simp only [Region.wanted, hg, if_true]
        left
        refine wp_two (hcong A hAa) hwp ?_
        rintro v w' ⟨hw', hS'⟩
        refine ih (listed.setIfInBounds i true) (a.put o.dst v) w' (dn ++ [i]) is (A.put o.dst v) (by simp [hsz]) hcnt' hw' hS' (by rw [hdn]; simp) (fun x hx => by
          rw [hset]
          split
          · rfl
          · rename_i hne
            rcases List.mem_append.1 hx with h | h
            · exact hdl x h
            · exact absurd (by simpa using h) hne) ?_ ?_ (by rw [put_size, put_size, hs]) (by rw [put_size, hs0]) ?_ ?_ ?_ ?_
        · intro x hx
          have hne : x ≠ i := by
            intro e
            subst e
            rw [hdn] at hnd
            have := (List.nodup_append.1 hnd).2.1
            exact (List.nodup_cons.1 this).1 hx
          rw [hset, if_neg hne]
          exact hrest x (.tail _ hx)
        · cases o.dst <;> exact hd
        · intro j hj
          rw [hput]; exact hv j hj
        · intro t ht ht2
          rw [hput]; exact ho t (fun j hj => ht j (List.mem_append_left _ hj)) ht2
        · intro j hj k hk
          rw [hset]
          split
          · rfl
          · rcases List.mem_append.1 hj with h | h
            · exact hC j h k hk
            · have : j = i := by simpa using h
              subst this
              exact hwt k hk
        · intro t
          rw [hput, hput]
          rcases hrel t with h3 | ⟨k, hk, h3, h4⟩
          · exact .inl h3
          · refine .inr ⟨k, hk, ?_, h4⟩
            rw [hset, if_neg (fun e2 => hf1 (by rw [← e2]; exact hk))]
            exact h3
      · obtain ⟨d, hdo, hdlt, hdd⟩ := hdst i hlt him
        have hdo' : o.dst = some d := by unfold dstOf at hdo; rw [hoi] at hdo; exact hdo
        have hval : ∀ (B : Act) (v : Value), B.tmps.size = a0.tmps.size → valAt ops (B.put o.dst v) i = v := by
          intro B v hB
          unfold valAt
          rw [hdo, hdo']
          exact put_same _ _ _ (by rw [hB]; exact hdlt)
        by_cases hf1 : i ∈ fl
        · -- one that floats
          have hg := (hfl i hf1).1.2
          rw [hoi, Option.bind_some, Option.isNone_iff_eq_none] at hg
          have hwr : rest ≠ [] := by
            intro e
            rw [e, List.append_nil] at hdn
            obtain ⟨l, hl⟩ : ∃ l, sp.getLast? = some l := ⟨sp.getLast hne, List.getLast?_eq_some_getLast hne⟩
            have hmem : l ∈ dn := by rw [← hdn]; exact List.mem_of_getLast? hl
            have := hC l hmem i (hlw l hl i hf1)
            rw [hui] at this
            cases this
          obtain ⟨o3, ho3, hrun⟩ := hF i hf1 w (hw hwr)
          rw [hoi] at ho3
          injection ho3 with ho3
          subst ho3
          have hA0a : ∀ t ∈ operandsOf ops i, (putL ops c fl a0).tmps.getD t undef = a.tmps.getD t undef := by
            intro t ht
            rcases hfo i hf1 t ht with h | h
            · rw [List.any_eq_true] at h
              obtain ⟨j, hj, h⟩ := h
              rw [Bool.and_eq_true, beq_iff_eq] at h
              have h1 := hA0 j hj
              have h2 := hv j hj
              unfold valAt at h1 h2
              rw [h.2] at h1 h2
              rcases hrel t with h3 | ⟨k, hk, h3, h4⟩
              · rw [h3]; exact h1.trans h2.symm
              · exfalso
                obtain ⟨dj, hdj, _, hdd2⟩ := hdst j (hfl j hj).1.1.2 (hflm j hj)
                rw [h.2] at hdj
                injection hdj with hdj
                subst hdj
                have hkj : k = j := by
                  apply Classical.byContradiction
                  intro hne
                  exact hdd2 k (hfl k hk).1.1.2 hne h4
                rw [hkj, hwt j h.1] at h3
                cases h3
            · have h' : ∀ j ∈ fl, dstOf ops j ≠ some t := fun j hj => by simpa using h.1 j hj
              rw [hout t h', ← ho t (fun j hj e => by
                rcases h.2 j (by rw [hdn]; exact List.mem_append_left _ hj) with h5 | h5
                · exact absurd e (by simpa using h5)
                · have := hC j hj i h5
                  rw [hui] at this
                  cases this) h']
              rcases hrel t with h3 | ⟨k, hk, _, h4⟩
              · exact h3.symm
              · exact absurd h4 (h' k hk)
          have hrun' : (execOp a.eval o).run P w = .ok (.value (c i)) w := by rw [← hcong _ hA0a]; exact hrun
          unfold wpOp
          rw [hoi]
          simp only [Region.wanted, hg, if_true]
          left
          unfold Oper.wp
          rw [hrun']
          simp only [Oper.upon]
          refine ih (listed.setIfInBounds i true) (a.put o.dst (c i)) w dn rest A (by simp [hsz]) hcnt' hw hS hdn (fun x hx => by rw [hset]; split; rfl; exact hdl x hx) ?_ ?_ (by rw [put_size, hs]) hs0 hv ho (fun j hj k hk => by rw [hset]; split; rfl; exact hC j hj k hk) ?_
          · intro x hx
            rw [hset, if_neg (fun e => hflsp i hf1 (by rw [hdn, ← e]; exact List.mem_append_right _ hx))]
            exact hrest x hx
          · rw [← hd]; cases o.dst <;> rfl
          · intro t
            by_cases e : dstOf ops i = some t
            · left
              have h2 := hv i hf1
              unfold valAt at h2
              rw [e] at h2
              rw [hdo] at e
              injection e with e
              subst e
              rw [hdo', put_same _ _ _ (by rw [hs, hs0]; exact hdlt)]
              exact h2.symm
            · rw [put_other _ _ _ _ (by rw [hdo', ← hdo]; exact e)]
              rcases hrel t with h3 | ⟨k, hk, h3, h4⟩
              · exact .inl h3
              · refine .inr ⟨k, hk, ?_, h4⟩
                rw [hset, if_neg (fun e2 => e (by rw [← e2]; exact h4))]
                exact h3
        · -- one of the row
          have hs1 : i ∈ sp := by
            rcases hcov i hlt with h | h
            · exact h
            · exact absurd h hf1
          have hhead : ∃ is, rest = i :: is := by
            have hmem : i ∈ dn ++ rest := by rw [← hdn]; exact hs1
            rcases List.mem_append.1 hmem with h | h
            · rw [hdl i h] at hui; cases hui
            · cases rest with
              | nil => cases h
              | cons x is =>
                by_cases e : i = x
                · exact ⟨is, by rw [e]⟩
                · exfalso
                  have hmi : i ∈ is := by
                    rcases List.mem_cons.1 h with h | h
                    · exact absurd h e
                    · exact h
                  obtain ⟨u, t, hut⟩ := List.append_of_mem hmi
                  obtain ⟨pre, y, hy⟩ : ∃ pre y, x :: u = pre ++ [y] := ⟨(x :: u).dropLast, (x :: u).getLast (by simp), (List.dropLast_concat_getLast (by simp)).symm⟩
                  have hsp2 : sp = (dn ++ pre) ++ y :: i :: t := by
                    rw [hdn, hut, ← List.cons_append, hy]
                    simp
                  have hwy : waitsB ops i y = true := chain_at (d := dn ++ pre) (l := t) (by rw [← hsp2]; exact hch)
                  have hyr : y ∈ x :: is := by
                    rw [hut, ← List.cons_append, hy]
                    simp
                  have := hrest y hyr
                  rw [hwt y hwy] at this
                  cases this
          obtain ⟨is, rfl⟩ := hhead
          obtain ⟨o3, ho3, hg, hwp⟩ := hS
          rw [hoi] at ho3
          injection ho3 with ho3
          subst ho3
          have hAa : ∀ t ∈ operandsOf ops i, A.tmps.getD t undef = a.tmps.getD t undef := by
            intro t ht
            rcases hrel t with h3 | ⟨k, hk, h3, h4⟩
            · exact h3.symm
            · exfalso
              rcases hso i hs1 t ht k hk with h | h
              · exact absurd h4 (by simpa using h)
              · rw [hwt k h] at h3; cases h3
          unfold wpOp
          rw [hoi]
          simp only [Region.wanted, hg, if_true]
          left
          refine wp_two (hcong A hAa) hwp ?_
          rintro v w' ⟨hw', hS'⟩
          refine ih (listed.setIfInBounds i true) (a.put o.dst v) w' (dn ++ [i]) is (A.put o.dst v) (by simp [hsz]) hcnt' hw' hS' (by rw [hdn]; simp) (fun x hx => by
            rw [hset]
            split
            · rfl
            · rename_i hne
              rcases List.mem_append.1 hx with h | h
              · exact hdl x h
              · exact absurd (by simpa using h) hne) ?_ ?_ (by rw [put_size, put_size, hs]) (by rw [put_size, hs0]) ?_ ?_ ?_ ?_
          · intro x hx
            have hne : x ≠ i := by
              intro e
              subst e
              rw [hdn] at hnd
              have := (List.nodup_append.1 hnd).2.1
              exact (List.nodup_cons.1 this).1 hx
            rw [hset, if_neg hne]
            exact hrest x (.tail _ hx)
          · cases o.dst <;> exact hd
          · intro j hj
            rw [← hv j hj]
            unfold valAt
            cases hjd : dstOf ops j with
            | none => rfl
            | some dj =>
              simp only
              refine put_other _ _ _ _ ?_
              rw [hdo']
              intro e
              have hji : j ≠ i := fun e2 => hf1 (by rw [← e2]; exact hj)
              exact hdd j (hfl j hj).1.1.2 hji (by rw [hjd]; exact e.symm)
          · intro t ht ht2
            rw [put_other _ _ _ _ (by rw [hdo', ← hdo]; exact ht i (by simp))]
            exact ho t (fun j hj => ht j (List.mem_append_left _ hj)) ht2
          · intro j hj k hk
            rw [hset]
            split
            · rfl
            · rcases List.mem_append.1 hj with h | h
              · exact hC j h k hk
              · have : j = i := by simpa using h
                subst this
                exact hwt k hk
          · intro t
            by_cases e : o.dst = some t
            · left
              rw [e]
              rw [hdo'] at e
              injection e with e
              subst e
              rw [put_same _ _ _ (by rw [hs, hs0]; exact hdlt), put_same _ _ _ (by rw [hs0]; exact hdlt)]
            · rw [put_other _ _ _ _ e, put_other _ _ _ _ e]
              rcases hrel t with h3 | ⟨k, hk, h3, h4⟩
              · exact .inl h3
              · refine .inr ⟨k, hk, ?_, h4⟩
                rw [hset, if_neg (fun e2 => hf1 (by rw [← e2]; exact hk))]
                exact h3
  refine wp_region_any hm ?_
  refine main ops.size (Array.replicate ops.size false) a0 w0.drew [] sp (putL ops c fl a0) (by simp) ?_ (fun _ => hW) fin rfl (fun x hx => by cases hx) ?_ (putL_defers c fl a0).symm (putL_size c fl a0).symm (putL_size c fl a0) hA0 (fun t _ h => hout t h) (fun j hj => by cases hj) ?_
  · exact Nat.le_trans (List.length_filter_le _ _) (by simp)
  · intro i hi
    rw [Array.getD_eq_getD_getElem?, Array.getElem?_eq_getElem (by simpa using hspl i hi)]
    simp
  · intro t
    by_cases e : ∃ j ∈ fl, dstOf ops j = some t
    · obtain ⟨j, hj, hjd⟩ := e
      refine .inr ⟨j, hj, ?_, hjd⟩
      rw [Array.getD_eq_getD_getElem?, Array.getElem?_eq_getElem (by simpa using (hfl j hj).1.1.2)]
      simp
    · left
      exact (slotO fl (List.all_eq_true.2 fun k hk => by
        have : dstOf ops k ≠ some t := fun h => e ⟨k, hk, h⟩
        simpa using this)).symm
/-- region_spine, by a list of places, slots and values. -/
theorem region_by_spineU {id : Nat} (m : Nat) (sp : List Nat) (fl : List (Nat × Tmp × Value)) (W : World → Prop) (hm : P.follows .mixedOrders = true) (hreg : regUB ops m a0.tmps.size = true) (hmsp : decide (m ∈ sp) = true) (hsp : spineB ops sp (fl.map (·.1)) = true) (hlw : (match sp.getLast? with | some l => (fl.map (·.1)).all fun i => waitsB ops l i | none => false) = true)
    (hd : (fl.map fun x => dstOf ops x.1) = fl.map fun x => some x.2.1) (hn : decide ((fl.map (·.1)).Nodup) = true) (hW : W w0.drew)
    (hF : ∀ x ∈ fl, ∀ w ρ, W w → (∀ t, ρ (.tmp t) = (putA fl a0).tmps.getD t undef) → (∀ c, ρ (.const c) = c) → ∃ o, ops[x.1]? = some o ∧ (execOp ρ o).run P w = .ok (.value x.2.2) w)
    (fin : SpineU P ops Q W sp (putA fl a0) w0.drew) : (Code.region id ops true).wp P Q a0 w0 := by
  have hall : ∀ x ∈ fl, valOf fl x.1 = x.2.2 ∧ dstOf ops x.1 = some x.2.1 := fun x hx => ⟨valOf_mem fl (of_decide_eq_true hn) x hx, by
    obtain ⟨k, hk, rfl⟩ := List.getElem_of_mem hx
    have := congrArg (fun l => l[k]?) hd
    simpa [hk] using this⟩
  have he := putL_putA (ops := ops) (valOf fl) fl a0 hall
  refine region_spineU sp (fl.map (·.1)) (valOf fl) W hm hreg (of_decide_eq_true hmsp) hsp (fun e => by rw [e] at hlw; cases hlw) (fun l hl i hi => by rw [show sp.getLast? = some l from hl] at hlw; exact List.all_eq_true.1 hlw i hi) hW ?_ (by rw [he]; exact fin)
  intro i hi w hw
  obtain ⟨x, hx, rfl⟩ := List.mem_map.1 hi
  rw [(hall x hx).1, he]
  exact hF x hx w _ hw (fun t => rfl) (fun c => rfl)
end
end Go.Proofs.YtdppnggchpchgaaDoor
/- graph.Twin. Conditions: lengths. -/
namespace Go.Proofs.YtdppnggchpchgaaDoor
set_option linter.unusedVariables false
set_option linter.unusedSimpArgs false
open Go.RowKit
set_option maxHeartbeats 4000000
set_option maxRecDepth 100000
end Go.Proofs.YtdppnggchpchgaaDoor
/- graph.Trim: what it works on; its first loop. Conditions: lengths. -/
namespace Go.Proofs.YtdppnggchpchgaaDoor
set_option linter.unusedVariables false
set_option linter.unusedSimpArgs false
open Go.RowKit Go.Maps
/-- What Trim works on: the graph's box, the result's, the new numbers, the map, what is reached. -/
structure TS (w W : World) (q mb qr : Nat) (vn vr : Value) (N : Nat) (T : List Int) (P : List (Int × Int)) (L : List Bool) : Prop where
  gb : Bk W w.heap.size 25 #[vn, vr]
  rb : Bk W (w.heap.size + 1) 25 #[.slice none 0 0, .slice none 0 0]
  to : Ow iV 3 W (w.heap.size + 2) (.slice (some ⟨q, 0, none⟩) N N) T
  mp : MapIs W (some mb) P
  re : Ow tV 4 W (w.heap.size + 2) (.slice (some ⟨qr, 0, none⟩) N N) L
  ord : w.heap.size + 2 ≤ q ∧ q < mb ∧ mb < qr
  bl : Below w.heap.size w W
section
variable {w W W' : World} {q mb qr : Nat} {vn vr : Value} {N : Nat} {T T' : List Int} {P P' : List (Int × Int)} {L : List Bool}
theorem map_below (h : MapIs W (some mb) P) (hb : Below W.heap.size W W') : MapIs W' (some mb) P := h.kept (Kept.of_below hb (fun _ => False)) (fun _ _ f => f)
theorem TS.below (h : TS w W q mb qr vn vr N T P L) (hb : Below W.heap.size W W') : TS w W' q mb qr vn vr N T P L :=
  ⟨h.gb.below hb h.gb.lt, h.rb.below hb h.rb.lt, h.to.below hb, map_below h.mp hb, h.re.below hb, h.ord, h.bl.trans (hb.mono h.bl.size)⟩
theorem TS.put (h : TS w W q mb qr vn vr N T P L) (hm : MapIs W' (some mb) P') (hk : Kept (fun c => some mb = some c) W W') : TS w W' q mb qr vn vr N T P' L := by
  have hord := h.ord
  have hn : ∀ c, c ≠ mb → ¬ (some mb = some c) := fun c hc e => hc (by injection e with e; exact e.symm)
  refine ⟨hk.bk h.gb (hn _ (by omega)), hk.bk h.rb (hn _ (by omega)), hk.ow h.to (fun c e => hn _ (by injection e with e; have e3 : q = c := e; omega)), hm, hk.ow h.re (fun c e => hn _ (by injection e with e; have e3 : qr = c := e; omega)), hord, h.bl.trans (hk.below h.bl.size (fun c e => by injection e with e; omega))⟩
theorem TS.store (h : TS w W q mb qr vn vr N T P L) {k : Nat} (hk : k < T.length) (z : Int) : TS w (W.setCell ⟨q, k, none⟩ (.int .i64 z)) q mb qr vn vr N (T.set k z) P L := by
  have hord := h.ord
  refine ⟨h.gb.far (p := ⟨q, k, none⟩) (show w.heap.size ≠ q by omega) _, h.rb.far (p := ⟨q, k, none⟩) (show w.heap.size + 1 ≠ q by omega) _, h.to.set hk z, h.mp.kept (Kept.set W q k _) (fun b e e2 => by injection e with e; omega), (h.re.kept (grown_set W ⟨q, k, none⟩ _) (.inr (fun e => by injection e with e; have e3 : qr = q := e; omega))), hord, h.bl.setCell (p := ⟨q, k, none⟩) (show w.heap.size ≤ q by omega) _⟩
end
theorem Kept.bel {S : Nat → Prop} {a b c : World} (h : Kept S a b) (hb : Below a.heap.size b c) : Kept S a c :=
  ⟨hb.os.trans h.os, hb.tape.trans h.tape, hb.output.trans h.output, Nat.le_trans h.size hb.size, fun i hi hn => (hb.block i hi).trans (h.block i hi hn)⟩
theorem Kept.gr {a b : World} {q : Nat} (h : Kept (fun b => b = q) a b) : a.grownBy b (some q) := ⟨h.os, h.tape, h.output, h.size, fun k hk hn => h.block k hk (fun e => hn (by rw [e]))⟩
set_option maxHeartbeats 4000000
set_option maxRecDepth 100000
end Go.Proofs.YtdppnggchpchgaaDoor
/- The closure of canon.walk. Conditions: lengths. -/
namespace Go.Proofs.YtdppnggchpchgaaDoor
set_option linter.unusedVariables false
set_option linter.unusedSimpArgs false
open Go.RowKit Go.Maps
/-- What the walk works on: the graph's box, the map's, the order's. -/
structure CS (W : World) (s ob mb nb B : Nat) (vn vr : Value) (od : List Int) : Prop where
  gb : Bk W s 25 #[vn, vr]
  nk : Bk W nb 58 #[.map (some mb)]
  mp : ∃ l, MapIs W (some mb) l ∧ CM od l
  wk : ∃ v, Bk W ob 40 #[v] ∧ Ow iV 3 W B v od
  ord : s < ob ∧ ob < mb ∧ mb < nb ∧ nb < B
  sz : B ≤ W.heap.size
theorem CS.below {W W' : World} {s ob mb nb B : Nat} {vn vr : Value} {od : List Int} (h : CS W s ob mb nb B vn vr od) (hb : Below W.heap.size W W') : CS W' s ob mb nb B vn vr od := by
  obtain ⟨v, h1, h2⟩ := h.wk
  obtain ⟨l, h5, h6⟩ := h.mp
  exact ⟨h.gb.below hb h.gb.lt, h.nk.below hb h.nk.lt, ⟨l, map_below h5 hb, h6⟩, ⟨v, h1.below hb h1.lt, h2.below hb⟩, h.ord, Nat.le_trans h.sz hb.size⟩
set_option maxHeartbeats 2000000
set_option maxRecDepth 100000
/-- What the closure changes. -/
def ClK (ob mb B : Nat) (k : Nat) : Prop := k = ob ∨ k = mb ∨ B ≤ k
theorem clook_c (w : World) (s ob mb nb B : Nat) (A1 A2 : Option Addr) (N c1 M c2 : Nat) (od : List Int) (h : CS w s ob mb nb B (.slice A1 N c1) (.slice A2 M c2) od) (hnd : od.Nodup ∧ ∀ p ∈ od, hasG N p = true) (A : Option Addr) (c : Nat) (ps : List Int) (hr : Rd iV w B A ps ∧ ∀ ad, A = some ad → 0 < ps.length → ad.block ≠ ob ∧ ad.block ≠ mb) (hl : ps.length ≤ 1000000) (hN : N ≤ 1000000) :
    Calls Tryd.prog 41 #[.slice A ps.length c, .pointer (some ⟨s, 0, none⟩), .pointer (some ⟨nb, 0, none⟩), .pointer (some ⟨ob, 0, none⟩)] w fun e w' => e = .returned (.tuple #[]) ∧ CS w' s ob mb nb B (.slice A1 N c1) (.slice A2 M c2) (feedW N od ps) ∧ Kept (ClK ob mb B) w w' := by
  have H0 := Lib.hid h
  have HR := Lib.hid hr
  have HD := Lib.hid hnd
  obtain ⟨L, hLn⟩ : ∃ L, L = ps.length := ⟨_, rfl⟩
  have HLn := Lib.hid hLn
  rw [← hLn]
  have q0 : (L : Int) ≤ 1000000 := by omega
  have q1 : (N : Int) ≤ 1000000 := by omega
  have hsw : s < w.heap.size := h.gb.lt
  clear h hr hl hLn hN hnd
  go_enter Tryd.func41, Tryd.ntmps41
  go_wp2_with fail
  go_loopw [9] (fun i W => ∃ (k : Nat) (t : List Int), i = .int .i64 k ∧ k ≤ L ∧ Hid (t = feedW N od (ps.take k)) ∧ CS W s ob mb nb B (.slice A1 N c1) (.slice A2 M c2) t ∧ Kept (ClK ob mb B) w W) (fun i _ => L - (Go.RowKit.intOf i).toNat)
  case atStart => exact ⟨0, od, rfl, Nat.zero_le _, Lib.hid rfl, H0.out, Kept.refl _ _⟩
  case round =>
    obtain ⟨k, t, rfl, hk, ht, hS, hB⟩ := hrel
    by_cases hlt : k < L
    · have hkl : k < ps.length := by rw [← HLn.out]; exact hlt
      obtain ⟨p, hp⟩ : ∃ p, p = ps[k] := ⟨_, rfl⟩
      obtain ⟨ad, rfl, hcell⟩ : ∃ ad, A = some ad ∧ wr.cell? (ad.add k) = some (.int .i64 p) := by
        obtain ⟨ad, e, hb, hc⟩ := HR.out.1 k hkl
        obtain ⟨n1, n2⟩ := HR.out.2 ad e (by omega)
        have hab : (ad.add k).block = ad.block := add_block _ _
        exact ⟨ad, e, by rw [hp]; exact (hB.cell (p := ad.add k) (by have := H0.out.sz; rw [hab]; omega) (fun h => by unfold ClK at h; rw [hab] at h; omega)).trans hc⟩
      have hnx := feedW_take (N := N) (out := od) hkl
      rw [← ht.out, ← hp] at hnx
      have htd : t.Nodup ∧ ∀ p ∈ t, hasG N p = true := by rw [ht.out]; exact feed_nd _ _ HD.out.1 HD.out.2
      have HNX := Lib.hid (And.intro hnx (And.intro htd (nd_le htd.1 htd.2)))
      have g0 := hS.gb.two.1
      have g1 := hS.gb.two.2
      have HSS := Lib.hid (And.intro hS hB)
      have p1 : (0 : Int) ≤ (k : Int) := by omega
      have p2 : (k : Int) < (L : Int) := by omega
      clear hp hkl hnx htd hS hB ht
      by_cases hx1 : p < 1
      · have HE := Lib.hid (show stepW N t p = t from stepW_no' (fun e => by have := hasG_iff.1 e.1; omega))
        go_wp2_with fail
        go_roundw
        case rel => exact ⟨k + 1, t, by go_num, by omega, Lib.hid (by rw [HNX.out.1, HE.out]), HSS.out⟩
        case measure => simp [Go.RowKit.intOf]; omega
      · by_cases hx2 : (N : Int) < p
        · have HE := Lib.hid (show stepW N t p = t from stepW_no' (fun e => by have := hasG_iff.1 e.1; omega))
          have hx3 : ¬ p < 1 := hx1
          go_wp2_with fail
          go_roundw
          case rel => exact ⟨k + 1, t, by go_num, by omega, Lib.hid (by rw [HNX.out.1, HE.out]), HSS.out⟩
          case measure => simp [Go.RowKit.intOf]; omega
        · obtain ⟨j, rfl, hj⟩ : ∃ j : Nat, p = (j : Int) + 1 ∧ j < N := ⟨(p - 1).toNat, by omega, by omega⟩
          obtain ⟨l, hm, hcm⟩ := HSS.out.1.mp
          have hwf : (Lit.int .i64 ((j : Int) + 1)).wf = true := wfI (by omega) (by omega)
          have hlk := hm.look hwf
          rw [hcm.at_] at hlk
          have n0 : wr.cell? ⟨nb, 0, none⟩ = some (.map (some mb)) := HSS.out.1.nk.cell 0
          have HC := Lib.hid (And.intro hm (And.intro hcm hwf))
          have j1 : ¬ (j : Int) + 1 < 1 := by omega
          have j2 : ¬ (N : Int) < (j : Int) + 1 := by omega
          have hG := Lib.hid (show hasG N ((j : Int) + 1) = true from hasG_iff.2 (by omega))
          obtain ⟨z, hz⟩ : ∃ z, z = newO t ((j : Int) + 1) := ⟨_, rfl⟩
          have HZ := Lib.hid hz
          have hz0 : 0 ≤ z := by rw [hz]; exact newO_le.1
          rw [← hz] at hlk
          clear hx1 hx2 hm hcm hwf hz
          by_cases hz1 : 0 < z
          · have HE := Lib.hid (show stepW N t ((j : Int) + 1) = t from stepW_no' (fun e => e.2 (newO_pos.1 (by rw [← HZ.out]; exact hz1))))
            go_wp2_with fail
            go_roundw
            case rel => exact ⟨k + 1, t, by go_num, by omega, Lib.hid (by rw [HNX.out.1, HE.out]), HSS.out⟩
            case measure => simp [Go.RowKit.intOf]; omega
          · have hni : ((j : Int) + 1) ∉ t := fun e => hz1 (by rw [HZ.out]; exact newO_pos.2 e)
            have HE := Lib.hid (And.intro (show stepW N t ((j : Int) + 1) = t ++ [(j : Int) + 1] from stepW_yes' hG.out hni) hni)
            obtain rfl : z = 0 := by omega
            clear hz1 hz0 hni HZ
            obtain ⟨v, k1, k2⟩ := HSS.out.1.wk
            obtain ⟨VA, vc, rfl, hvc⟩ := k2.form
            obtain ⟨vl, hvl⟩ : ∃ vl, vl = t.length := ⟨_, rfl⟩
            have hvN : vl ≤ 1000000 := by have := HNX.out.2.2; omega
            have HV := Lib.hid (And.intro hvl hvN)
            rw [← hvl] at k1 k2
            have hord := HSS.out.1.ord
            have hnbs := HSS.out.1.nk.lt
            have k10 : wr.cell? ⟨ob, 0, none⟩ = some (.slice VA vl vc) := k1.cell 0
            have K1 := Lib.hid (And.intro k1 k2)
            have HO := Lib.hid (And.intro hord hnbs)
            have hobs : ob < wr.heap.size := by omega
            clear hvl hvc k1 k2 hord hnbs
            have hne1 : ¬ ob = nb := by have := HO.out; omega
            have hne2 : ¬ nb = ob := by have := HO.out; omega
            go_wp2_with (first | (at_builtin; refine wp_app oneI iV_one rfl (.tmp 28) (.tmp 30) rfl B _ t rfl (K1.out.2.alloc _) (some ⟨wr.heap.size, 0, none⟩) 1 1 [(j : Int) + 1] rfl rfl (wr.heap.size + 1) (rd1_new (f := iV) (w := wr) (E := 3) (y := (j : Int) + 1) (u := .int .i64 ((j : Int) + 1)) rfl) (by have := HV.out; simp; omega) (by decide) (by have := HSS.out.1.sz; simp; omega) ?_; intro v5 w5 ho5 hb5 hg5 _; obtain ⟨VA5, vc5, rfl, _⟩ := ho5.form; have HL5 := Lib.hid (show (t ++ [(j : Int) + 1]).length = vl + 1 from by rw [List.length_append, ← HV.out.1]; rfl); obtain ⟨n5, hn5⟩ : ∃ n, n = (t ++ [(j : Int) + 1]).length := ⟨_, rfl⟩; rw [← hn5] at ho5 ⊢; have HN5 := Lib.hid (show n5 = vl + 1 from by rw [hn5]; exact HL5.out); clear hn5; have H5 := Lib.hid (And.intro ho5 hb5); have m5 := (K1.out.1.alloc (.cells #[.int .i64 ((j : Int) + 1)] 3)).below hb5 (by have := HO.out; omega); have m50 : w5.cell? ⟨ob, 0, none⟩ = some (.slice VA vl vc) := m5.cell 0; have m51 := m5.free 0; have M5 := Lib.hid m5; have n5c : w5.cell? ⟨nb, 0, none⟩ = some (.map (some mb)) := ((HSS.out.1.nk.alloc (.cells #[.int .i64 ((j : Int) + 1)] 3)).below H5.out.2 (by have := HO.out; omega)).cell 0; clear ho5 hb5 hg5 m5) | (have HM6 := Lib.hid (show MapIs (w5.setCell ⟨ob, 0, none⟩ (.slice VA5 n5 vc5)) (some mb) l from (((map_below HC.out.1 (Gw.alloc wr (.cells #[.int .i64 ((j : Int) + 1)] 3))).kept (S := fun c => B ≤ c) ⟨H5.out.2.os, H5.out.2.tape, H5.out.2.output, H5.out.2.size, fun k _ hn => H5.out.2.block k (by omega)⟩ (fun b e h => by injection e with e; have := HO.out; omega)).kept (Kept.set w5 ob 0 _) (fun b e h => by injection e with e; have := HO.out; omega))); refine wp_put_is rfl (.tmp 32) (.tmp 33) (.tmp 35) rfl rfl HM6.out ((j : Int) + 1) (n5 : Int) rfl rfl HC.out.2.2 (wfI (by omega) (by have := HN5.out; omega)) (by have := HC.out.2.1.len; have := HV.out; omega) ?_; intro w6 hm6 hk6; have H6 := Lib.hid (And.intro hm6 hk6); clear hm6 hk6))
            have H7 := Lib.hid (show CS w6 s ob mb nb B (.slice A1 N c1) (.slice A2 M c2) (t ++ [(j : Int) + 1]) ∧ Kept (ClK ob mb B) w w6 from by
              obtain ⟨⟨o1, o2, o3, o5⟩, o4⟩ := HO.out
              obtain ⟨g1, g2⟩ := H5.out
              obtain ⟨m1, m2⟩ := H6.out
              have hset := Kept.set w5 ob 0 (.slice VA5 n5 vc5)
              have bk : ∀ {b : Nat} {E : TypeId} {cs : Array Value}, Bk wr b E cs → b < B → b ≠ ob → b ≠ mb → Bk w6 b E cs := fun {b} {E} {cs} h h1 h2 h3 => m2.bk (hset.bk ((h.alloc _).below g2 h1) h2) (fun e => h3 (by injection e with e; exact e.symm))
              refine ⟨⟨bk HSS.out.1.gb (by omega) (by omega) (by omega), bk HSS.out.1.nk (by omega) (by omega) (by omega), ⟨_, m1, ?_⟩, ⟨_, m2.bk (M5.out.set 0 _) (fun e => by injection e with e; omega), ?_⟩, ⟨o1, o2, o3, o5⟩, ?_⟩, ?_⟩
              · have h := HC.out.2.1.put HE.out.2
                have e : (n5 : Int) = (t.length : Int) + 1 := by have := HN5.out; have := HV.out.1; omega
                rw [e]; exact h
              · refine m2.ow (hset.ow g1 (fun c e e2 => ?_)) (fun c e e2 => ?_)
                · have := (g1.lt c e).1; omega
                · have := (g1.lt c e).1
                  injection e2 with e2; omega
              · have h1 := HSS.out.1.sz
                have h2 := g2.size
                have h3 := hset.size
                have h4 := m2.size
                simp at h2
                omega
              · have k1 : Kept (ClK ob mb B) wr w5 := (Kept.alloc _ wr _).trans (⟨g2.os, g2.tape, g2.output, g2.size, fun k _ hn => g2.block k (by unfold ClK at hn; omega)⟩)
                exact (HSS.out.2.trans k1).trans ((hset.more fun k e => .inl e).trans (m2.more fun k e => .inr (.inl (Option.some.inj e).symm))))
            clear m50 m51 M5 H5 K1 H6 n5c
            go_roundw
            case rel => exact ⟨k + 1, _, by go_num, by omega, Lib.hid (by rw [HNX.out.1, HE.out.1]), H7.out⟩
            case measure => simp [Go.RowKit.intOf]; omega
    · have hfin : t = feedW N od ps := by
        rw [ht.out, List.take_of_length_le (by rw [← HLn.out]; omega)]
      have HF := Lib.hid (And.intro hS (And.intro hB hfin))
      clear hS hB hfin ht
      go_wp2_with fail
      go_end0
      rw [← HF.out.2.2]
      exact ⟨rfl, HF.out.1, HF.out.2.1⟩
end Go.Proofs.YtdppnggchpchgaaDoor
/- canon.walk: nodes as they come. Conditions: lengths. -/
namespace Go.Proofs.YtdppnggchpchgaaDoor
set_option linter.unusedVariables false
set_option linter.unusedSimpArgs false
open Go.RowKit Go.Maps
set_option maxHeartbeats 4000000
set_option maxRecDepth 100000
theorem cw8_r (Q : Exit → Act → World → Prop) (a0 : Act) (w : World) (s ob mb nb q vc N c1 n k j xn xc : Nat) (ad : Addr) (xA : Option Addr) (hf : Hid (∀ W, Below w.heap.size w W → W.cell? ⟨s, 0, none⟩ = some (.slice (some ad) N c1) ∧ W.cell? ⟨ob, 0, none⟩ = some (.slice (some ⟨q, 0, none⟩) n vc) ∧ W.cell? ⟨q, k, none⟩ = some (.int .i64 ((j : Int) + 1)) ∧ W.cell? (ad.add (j * 2)) = some (.slice xA xn xc))) (h1 : (k : Int) < (n : Int)) (h2 : (0 : Int) ≤ (k : Int)) (h3 : (j : Int) < (N : Int)) (h4 : (0 : Int) ≤ (j : Int)) (h5 : (N : Int) ≤ 1000000) (hsz : a0.tmps.size = 34) (sl1 : a0.tmps.getD 1 undef = .pointer (some ⟨s, 0, none⟩)) (sl4 : a0.tmps.getD 4 undef = .pointer (some ⟨ob, 0, none⟩)) (sl6 : a0.tmps.getD 6 undef = .func (.func 41) #[] #[.pointer (some ⟨s, 0, none⟩), .pointer (some ⟨nb, 0, none⟩), .pointer (some ⟨ob, 0, none⟩)]) (sl7 : a0.tmps.getD 7 undef = .int .i64 k)
    (fin : ∀ (vals : Nat → Value) (w1 : World), Below w.heap.size w w1 → (IsV (.func (.func 41) #[] #[.pointer (some ⟨s, 0, none⟩), .pointer (some ⟨nb, 0, none⟩), .pointer (some ⟨ob, 0, none⟩)])) (vals 0) w1 → (IsV (.slice xA xn xc)) (vals 10) w1 → wpList Tryd.prog #[{ dst := some 31, op := Go.Op.call { callee := Go.Callee.value (Go.Operand.tmp 20), args := #[Go.Operand.tmp 30], argTypes := #[40] }, type := 0, pos := "", after := #[], guard := none }] Q [{ dst := some 31, op := Go.Op.call { callee := Go.Callee.value (Go.Operand.tmp 20), args := #[Go.Operand.tmp 30], argTypes := #[40] }, type := 0, pos := "", after := #[], guard := none }] (putD vals [20, 21, 22, 23, 24, 25, 26, 27, 28, 29, 30] 0 a0) w1) :
    (Code.region 8 (regIn Tryd.f26 8) true).wp Tryd.prog Q a0 w := by
  refine region_by_tail (m := 11) (G := fun w w1 => Below w.heap.size w w1) [IsV (.func (.func 41) #[] #[.pointer (some ⟨s, 0, none⟩), .pointer (some ⟨nb, 0, none⟩), .pointer (some ⟨ob, 0, none⟩)]),
    IsV (.pointer (some ⟨s, 0, none⟩)),
    IsV (.slice (some ad) N c1),
    IsV (.slice (some ⟨q, 0, none⟩) n vc),
    IsV (.int .i64 k),
    IsV (.pointer (some ⟨q, k, none⟩)),
    IsV (.int .i64 ((j : Int) + 1)),
    IsV (.int .i64 j),
    IsV (.pointer (some (ad.add (j * 2)))),
    IsV (.pointer (some (ad.add (j * 2)))),
    IsV (.slice xA xn xc)]
    [20, 21, 22, 23, 24, 25, 26, 27, 28, 29, 30] (by kernel_rfl) (Gw.drew _) Gw.trans (by rw [hsz]; kernel_rfl) (by kernel_rfl) ?_ ?_ ?_
  · intro f hf
    simp only [List.mem_cons, List.not_mem_nil, or_false] at hf
    rcases hf with rfl | rfl | rfl | rfl | rfl | rfl | rfl | rfl | rfl | rfl | rfl <;> intro v a b h g <;> first | exact IsV.mono h
  · refine ⟨?_, ?_, ?_, ?_, ?_, ?_, ?_, ?_, ?_, ?_, ?_, trivial⟩
    · exact owes_mv 6 (by kernel_rfl) (by kernel_rfl) (by kernel_rfl) sl6 (fun _ => rfl)
    · refine owes_v (Go.Op.fieldAddr 25 (Go.Operand.tmp 1) 0) 0 [] (by kernel_rfl) (by kernel_rfl) (by kernel_rfl) rfl fun vals w1 ρ hG hF hρ hcst hfun => ?_
      have e1 : ρ (.tmp 1) = .pointer (some ⟨s, 0, none⟩) := ((hρ 1).trans (slotO [] (by kernel_rfl))).trans sl1
      clear hρ hF hcst hfun sl1 sl4 sl6 sl7 fin
      exact opv_val (by go_simp <;> rfl) ⟨gw_self _, rfl⟩
    · refine owes_v (Go.Op.load 22 (Go.Operand.tmp 21)) 22 [1] (by kernel_rfl) (by kernel_rfl) (by kernel_rfl) rfl fun vals w1 ρ hG hF hρ hcst hfun => ?_
      have e21 : ρ (.tmp 21) = .pointer (some ⟨s, 0, none⟩) := ((hρ 21).trans (slotJ [1] (by rw [hsz]; decide) (by kernel_rfl))).trans (hF 1 (by decide))
      obtain ⟨d0, _, _, _⟩ := hf.out w1 hG
      clear hρ hF hcst hfun sl1 sl4 sl6 sl7 fin
      exact opv_val (by go_simp <;> rfl) ⟨gw_self _, rfl⟩
    · refine owes_v (Go.Op.load 40 (Go.Operand.tmp 4)) 40 [] (by kernel_rfl) (by kernel_rfl) (by kernel_rfl) rfl fun vals w1 ρ hG hF hρ hcst hfun => ?_
      have e4 : ρ (.tmp 4) = .pointer (some ⟨ob, 0, none⟩) := ((hρ 4).trans (slotO [] (by kernel_rfl))).trans sl4
      obtain ⟨_, d0, _, _⟩ := hf.out w1 hG
      clear hρ hF hcst hfun sl1 sl4 sl6 sl7 fin
      exact opv_val (by go_simp <;> rfl) ⟨gw_self _, rfl⟩
    · exact owes_mv 7 (by kernel_rfl) (by kernel_rfl) (by kernel_rfl) sl7 (fun _ => rfl)
    · refine owes_v (Go.Op.indexAddr 40 (Go.Operand.tmp 23) (Go.Operand.tmp 24)) 0 [3, 4] (by kernel_rfl) (by kernel_rfl) (by kernel_rfl) rfl fun vals w1 ρ hG hF hρ hcst hfun => ?_
      have e23 : ρ (.tmp 23) = .slice (some ⟨q, 0, none⟩) n vc := ((hρ 23).trans (slotJ [3, 4] (by rw [hsz]; decide) (by kernel_rfl))).trans (hF 3 (by decide))
      have e24 : ρ (.tmp 24) = .int .i64 k := ((hρ 24).trans (slotJ [3, 4] (by rw [hsz]; decide) (by kernel_rfl))).trans (hF 4 (by decide))
      have g1 := h1
      have g2 := h2
      clear hρ hF hcst hfun sl1 sl4 sl6 sl7 fin
      exact opv_val (by go_simp <;> rfl) ⟨gw_self _, rfl⟩
    · refine owes_v (Go.Op.load 3 (Go.Operand.tmp 25)) 3 [5] (by kernel_rfl) (by kernel_rfl) (by kernel_rfl) rfl fun vals w1 ρ hG hF hρ hcst hfun => ?_
      have e25 : ρ (.tmp 25) = .pointer (some ⟨q, k, none⟩) := ((hρ 25).trans (slotJ [5] (by rw [hsz]; decide) (by kernel_rfl))).trans (hF 5 (by decide))
      obtain ⟨_, _, d0, _⟩ := hf.out w1 hG
      clear hρ hF hcst hfun sl1 sl4 sl6 sl7 fin
      exact opv_val (by go_simp <;> rfl) ⟨gw_self _, rfl⟩
    · refine owes_v (Go.Op.binOp Go.BinOp.sub 3 (Go.Operand.tmp 26) (Go.Operand.const (Go.Value.int Go.IntKind.i64 1)) 3) 3 [6] (by kernel_rfl) (by kernel_rfl) (by kernel_rfl) rfl fun vals w1 ρ hG hF hρ hcst hfun => ?_
      have e26 : ρ (.tmp 26) = .int .i64 ((j : Int) + 1) := ((hρ 26).trans (slotJ [6] (by rw [hsz]; decide) (by kernel_rfl))).trans (hF 6 (by decide))
      have kw0 : IntKind.i64.wrap ((j : Int)) = (j : Int) := wrapIn (by omega) (by omega)
      clear hρ hF hfun sl1 sl4 sl6 sl7 fin
      exact opv_val (by go_simp <;> rfl) ⟨gw_self _, rfl⟩
    · refine owes_v (Go.Op.indexAddr 22 (Go.Operand.tmp 22) (Go.Operand.tmp 27)) 0 [2, 7] (by kernel_rfl) (by kernel_rfl) (by kernel_rfl) rfl fun vals w1 ρ hG hF hρ hcst hfun => ?_
      have e22 : ρ (.tmp 22) = .slice (some ad) N c1 := ((hρ 22).trans (slotJ [2, 7] (by rw [hsz]; decide) (by kernel_rfl))).trans (hF 2 (by decide))
      have e27 : ρ (.tmp 27) = .int .i64 j := ((hρ 27).trans (slotJ [2, 7] (by rw [hsz]; decide) (by kernel_rfl))).trans (hF 7 (by decide))
      have g1 := h3
      have g2 := h4
      clear hρ hF hcst hfun sl1 sl4 sl6 sl7 fin
      exact opv_val (by go_simp <;> rfl) ⟨gw_self _, rfl⟩
    · refine owes_v (Go.Op.fieldAddr 52 (Go.Operand.tmp 28) 0) 0 [8] (by kernel_rfl) (by kernel_rfl) (by kernel_rfl) rfl fun vals w1 ρ hG hF hρ hcst hfun => ?_
      have e28 : ρ (.tmp 28) = .pointer (some (ad.add (j * 2))) := ((hρ 28).trans (slotJ [8] (by rw [hsz]; decide) (by kernel_rfl))).trans (hF 8 (by decide))
      clear hρ hF hcst hfun sl1 sl4 sl6 sl7 fin
      exact opv_val (by go_simp <;> rfl) ⟨gw_self _, rfl⟩
    · refine owes_v (Go.Op.load 40 (Go.Operand.tmp 29)) 40 [9] (by kernel_rfl) (by kernel_rfl) (by kernel_rfl) rfl fun vals w1 ρ hG hF hρ hcst hfun => ?_
      have e29 : ρ (.tmp 29) = .pointer (some (ad.add (j * 2))) := ((hρ 29).trans (slotJ [9] (by rw [hsz]; decide) (by kernel_rfl))).trans (hF 9 (by decide))
      obtain ⟨_, _, _, d0⟩ := hf.out w1 hG
      clear hρ hF hcst hfun sl1 sl4 sl6 sl7 fin
      exact opv_val (by go_simp <;> rfl) ⟨gw_self _, rfl⟩
  · intro vals w1 hG hF
    exact last_list (by kernel_rfl) (by kernel_rfl) (by kernel_rfl) (fin vals w1 hG (hF 0 (by decide +kernel)) (hF 10 (by decide +kernel)))
theorem cw9_r (Q : Exit → Act → World → Prop) (a0 : Act) (w : World) (ob mb nb n vc : Nat) (WA : Option Addr) (hf : Hid (∀ W, Below w.heap.size w W → W.cell? ⟨ob, 0, none⟩ = some (.slice WA n vc) ∧ W.cell? ⟨nb, 0, none⟩ = some (.map (some mb)))) (hsz : a0.tmps.size = 34) (sl4 : a0.tmps.getD 4 undef = .pointer (some ⟨ob, 0, none⟩)) (sl5 : a0.tmps.getD 5 undef = .pointer (some ⟨nb, 0, none⟩))
    (fin : ∀ (vals : Nat → Value) (w1 : World), Below w.heap.size w w1 → (IsV (.slice WA n vc)) (vals 2) w1 → (IsV (.map (some mb))) (vals 3) w1 → Q .normal (putD vals [32, 33, 2, 3] 0 a0) w1) :
    (Code.region 9 (regIn Tryd.f26 9) true).wp Tryd.prog Q a0 w := by
  refine region_by (G := fun w w1 => Below w.heap.size w w1) [IsV (.slice WA n vc),
    IsV (.map (some mb)),
    IsV (.slice WA n vc),
    IsV (.map (some mb))]
    [32, 33, 2, 3] (by kernel_rfl) (Gw.drew _) Gw.trans (by rw [hsz]; kernel_rfl) (by kernel_rfl) ?_ ?_ ?_
  · intro f hf
    simp only [List.mem_cons, List.not_mem_nil, or_false] at hf
    rcases hf with rfl | rfl | rfl | rfl <;> intro v a b h g <;> first | exact IsV.mono h
  · refine ⟨?_, ?_, ?_, ?_, trivial⟩
    · refine owes_v (Go.Op.load 40 (Go.Operand.tmp 4)) 40 [] (by kernel_rfl) (by kernel_rfl) (by kernel_rfl) rfl fun vals w1 ρ hG hF hρ hcst hfun => ?_
      have e4 : ρ (.tmp 4) = .pointer (some ⟨ob, 0, none⟩) := ((hρ 4).trans (slotO [] (by kernel_rfl))).trans sl4
      obtain ⟨d0, _⟩ := hf.out w1 hG
      clear hρ hF hcst hfun sl4 sl5 fin
      exact opv_val (by go_simp <;> rfl) ⟨gw_self _, rfl⟩
    · refine owes_v (Go.Op.load 58 (Go.Operand.tmp 5)) 58 [] (by kernel_rfl) (by kernel_rfl) (by kernel_rfl) rfl fun vals w1 ρ hG hF hρ hcst hfun => ?_
      have e5 : ρ (.tmp 5) = .pointer (some ⟨nb, 0, none⟩) := ((hρ 5).trans (slotO [] (by kernel_rfl))).trans sl5
      obtain ⟨_, d0⟩ := hf.out w1 hG
      clear hρ hF hcst hfun sl4 sl5 fin
      exact opv_val (by go_simp <;> rfl) ⟨gw_self _, rfl⟩
    · exact owes_mvj 0 32 (by kernel_rfl) (by kernel_rfl) (by kernel_rfl) (by kernel_rfl) (by rw [hsz]; decide) (fun v w h => h)
    · exact owes_mvj 1 33 (by kernel_rfl) (by kernel_rfl) (by kernel_rfl) (by kernel_rfl) (by rw [hsz]; decide) (fun v w h => h)
  · intro vals w1 hG hF
    exact fin vals w1 hG (hF 2 (by decide +kernel)) (hF 3 (by decide +kernel))
theorem cwalk_c (w : World) (g : Gv) (hg : g.At w w.heap.size) (hs : g.Small) :
    Calls Tryd.prog 26 #[g.v] w fun e w' => ∃ OA oc mb l, e = .returned (.tuple #[.slice OA (walkL g.n (g.r.map (·.t))).length oc, .map (some mb)]) ∧ Rd iV w' w'.heap.size OA (walkL g.n (g.r.map (·.t))) ∧ MapIs w' (some mb) l ∧ CM (walkL g.n (g.r.map (·.t))) l ∧ Below w.heap.size w w' := by
  have HG := Lib.hid hg
  have HSm := Lib.hid hs.2.2
  have HNm := Lib.hid (fun W (b : Below w.heap.size w W) => named_g W g (hg.up b) hs)
  have HRl := Lib.hid hs.2.1
  obtain ⟨GA, ca, A2, ca2, ns, rs⟩ := g
  obtain ⟨N, hN⟩ : ∃ N, N = ns.length := ⟨_, rfl⟩
  obtain ⟨M, hM⟩ : ∃ M, M = rs.length := ⟨_, rfl⟩
  have HN := Lib.hid (And.intro hN hM)
  have q0 : (N : Int) ≤ 1000000 := by rw [hN]; exact Int.ofNat_le.2 hs.1
  obtain ⟨fr, hfr⟩ : ∃ fr, fr = rs.map (·.t) := ⟨_, rfl⟩
  have HFl := Lib.hid (show fr.length ≤ 1000000 from by rw [hfr, List.length_map]; exact HRl.out)
  unfold Gv.v Gv.vn Gv.vr at HNm ⊢
  simp only at HNm HSm ⊢
  rw [← hN, ← hM, ← hfr] at HNm
  rw [← hN, ← hM, ← hfr]
  clear hg hs hN hM hfr HRl
  have hmm := @run_makeMap Tryd.prog
  go_enter Tryd.func26, Tryd.ntmps26
  go_wp2_with fail
  obtain ⟨wa, hwa⟩ : ∃ W, W = w.alloc (.cells #[.slice GA N ca, .slice A2 M ca2] 25) := ⟨_, rfl⟩
  obtain ⟨wb, hwb⟩ : ∃ W, W = wa.alloc (.cells #[.slice none 0 0] 40) := ⟨_, rfl⟩
  obtain ⟨wc, hwc⟩ : ∃ W, W = wb.alloc (.map #[] 0) := ⟨_, rfl⟩
  obtain ⟨s, hs⟩ : ∃ s, s = w.heap.size := ⟨_, rfl⟩
  obtain ⟨ob, hob⟩ : ∃ s, s = w.heap.size + 1 := ⟨_, rfl⟩
  obtain ⟨mb, hmb⟩ : ∃ s, s = ob + 1 := ⟨_, rfl⟩
  obtain ⟨nb, hnb⟩ : ∃ s, s = mb + 1 := ⟨_, rfl⟩
  rw [← hwa, ← hwb, ← hwc, ← hob, ← hmb, ← hnb, ← hs]
  obtain ⟨W0, hW0⟩ : ∃ W, W = wc.alloc (.cells #[.map (some mb)] 58) := ⟨_, rfl⟩
  rw [← hW0]
  have z1 : wa.heap.size = ob := by rw [hwa, hob]; simp
  have z2 : wb.heap.size = mb := by rw [hwb, hmb, ← z1]; simp
  have z3 : wc.heap.size = nb := by rw [hwc, hnb, ← z2]; simp
  have hCS : CS W0 s ob mb nb W0.heap.size (.slice GA N ca) (.slice A2 M ca2) [] ∧ Below w.heap.size w W0 ∧ Bk W0 ob 40 #[.slice none 0 0] := by
    have k1 : Bk wa s 25 #[.slice GA N ca, .slice A2 M ca2] := by rw [hwa, hs]; exact Bk.new w _ _
    have k2 : Bk wb ob 40 #[.slice none 0 0] := by rw [hwb, ← z1]; exact Bk.new wa _ _
    have k3 : MapIs wc (some mb) [] := by rw [hwc, ← z2]; exact tighten (l := []) (World.ownsMap_made wb Tryd.prog 3 (plainElem Tryd.prog 3))
    have k4 : Bk W0 nb 58 #[.map (some mb)] := by rw [hW0, ← z3]; exact Bk.new wc _ _
    have b1 : Below w.heap.size w wa := by rw [hwa]; exact Gw.alloc w _
    have b2 : Below wa.heap.size wa wb := by rw [hwb]; exact Gw.alloc wa _
    have b3 : Below wb.heap.size wb wc := by rw [hwc]; exact Gw.alloc wb _
    have b4 : Below wc.heap.size wc W0 := by rw [hW0]; exact Gw.alloc wc _
    have b34 := b3.trans (b4.mono b3.size)
    have b24 := b2.trans (b34.mono b2.size)
    exact ⟨⟨k1.below b24 k1.lt, k4, ⟨[], map_below k3 b4, CM.nil⟩, ⟨_, k2.below b34 k2.lt, Ow.nil_ _ _ _ _⟩, ⟨by omega, by omega, by omega, k4.lt⟩, Nat.le_refl _⟩, b1.trans (b24.mono b1.size), k2.below b34 k2.lt⟩
  have HS0 := Lib.hid hCS
  have HO := Lib.hid (And.intro hs (And.intro hob (And.intro hmb hnb)))
  clear hwa hwb hwc hob hmb hnb hW0 z1 z2 z3 hCS hmm hs
  refine Calls.mono (HNm.out W0 HS0.out.2.1) ?_
  rintro r w2 ⟨v, rfl, ho, b2⟩
  obtain ⟨VA, vc, rfl, hvc⟩ := ho.form
  obtain ⟨vn, hvn⟩ : ∃ n, n = fr.length := ⟨_, rfl⟩
  rw [← hvn]
  obtain ⟨B, hB⟩ : ∃ B, B = w2.heap.size := ⟨_, rfl⟩
  have hS2 : CS w2 s ob mb nb B (.slice GA N ca) (.slice A2 M ca2) [] := by
    have h := HS0.out.1.below b2
    have ho := h.ord
    have hs := h.nk.lt
    exact ⟨h.gb, h.nk, h.mp, ⟨_, HS0.out.2.2.below b2 HS0.out.2.2.lt, Ow.nil_ _ _ _ _⟩, ⟨ho.1, ho.2.1, ho.2.2.1, by omega⟩, by omega⟩
  have HC := Lib.hid (fun W (od : List Int) (h : CS W s ob mb nb B (.slice GA N ca) (.slice A2 M ca2) od) (hnd : od.Nodup ∧ ∀ p ∈ od, hasG N p = true) (A : Option Addr) (c n : Nat) (ps : List Int) (hn : n = ps.length) (hr : Rd iV W B A ps ∧ ∀ ad, A = some ad → 0 < ps.length → ad.block ≠ ob ∧ ad.block ≠ mb) (hl : ps.length ≤ 1000000) => show Calls Tryd.prog 41 #[.slice A n c, .pointer (some ⟨s, 0, none⟩), .pointer (some ⟨nb, 0, none⟩), .pointer (some ⟨ob, 0, none⟩)] W fun e w' => e = .returned (.tuple #[]) ∧ CS w' s ob mb nb B (.slice GA N ca) (.slice A2 M ca2) (feedW N od ps) ∧ Kept (ClK ob mb B) W w' from by
    rw [hn]
    exact clook_c W s ob mb nb B GA A2 N ca M ca2 od h hnd A c ps hr hl (by omega))
  have hfr : Rd iV w2 B VA fr ∧ ∀ ad, VA = some ad → 0 < fr.length → ad.block ≠ ob ∧ ad.block ≠ mb := by
    rw [hB]
    refine ⟨ho.rd, fun ad e _ => ?_⟩
    have h1 := HS0.out.1.ord
    have h2 := HS0.out.1.sz
    have h3 := (ho.lt ad.block (by rw [e]; rfl)).1
    omega
  have HV := Lib.hid (And.intro hvn hfr)
  have hbb : Below w.heap.size w w2 := HS0.out.2.1.trans (b2.mono HS0.out.2.1.size)
  have HS2 := Lib.hid (And.intro hS2 hbb)
  have HB := Lib.hid hB
  clear ho b2 hvn hvc hfr hS2 hbb HS0 hB
  go_wp2_with fail
  refine Calls.mono (HC.out w2 [] HS2.out.1 ⟨List.nodup_nil, fun p hp => by cases hp⟩ VA vc vn fr HV.out.1 HV.out.2 HFl.out) ?_
  rintro r w3 ⟨rfl, h3, k3⟩
  have hbk : ∀ {W W' : World}, Below w.heap.size w W → Kept (ClK ob mb B) W W' → Below w.heap.size w W' := fun {W W'} hb hk => hb.trans (hk.below hb.size (fun c e => by
    unfold ClK at e
    have h1 := HO.out
    have h2 := HB.out
    have h3 := HS2.out.2.size
    omega))
  obtain ⟨o0, ho0⟩ : ∃ o0, o0 = feedW N [] fr := ⟨_, rfl⟩
  have hnd0 : o0.Nodup ∧ ∀ p ∈ o0, hasG N p = true := by rw [ho0]; exact feed_nd _ _ List.nodup_nil (fun p hp => by cases hp)
  rw [← ho0] at h3
  have H3 := Lib.hid (And.intro h3 (hbk HS2.out.2 k3))
  have HBk := Lib.hid (fun (W W' : World) (hb : Below w.heap.size w W) (hk : Kept (ClK ob mb B) W W') => hbk hb hk)
  have HN0 := Lib.hid (And.intro ho0 hnd0)
  clear h3 k3 hbk ho0 hnd0
  go_wp2_with fail
  go_loopw [7] (fun i W => ∃ (k : Nat) (od : List Int), i = .int .i64 k ∧ k ≤ N ∧ Hid (od = iterW ns o0 k) ∧ Hid (CS W s ob mb nb B (.slice GA N ca) (.slice A2 M ca2) od ∧ Below w.heap.size w W)) (fun i _ => N + 1 - (Go.RowKit.intOf i).toNat)
  case atStart => exact ⟨0, o0, rfl, Nat.zero_le _, Lib.hid rfl, Lib.hid H3.out⟩
  case round =>
    obtain ⟨k, od, rfl, hk, hod, hS⟩ := hrel
    have hnd : od.Nodup ∧ ∀ p ∈ od, hasG N p = true := by
      have h := iter_nd (ns := ns) HN0.out.2.1 (by rw [← HN.out.1]; exact HN0.out.2.2) k
      rw [← hod.out, ← HN.out.1] at h
      exact h
    have hle := nd_le hnd.1 hnd.2
    have HND := Lib.hid (And.intro hnd hle)
    obtain ⟨v, k1, k2⟩ := hS.out.1.wk
    obtain ⟨WA, wc', rfl, hwc⟩ := k2.form
    obtain ⟨n, hn⟩ : ∃ n, n = od.length := ⟨_, rfl⟩
    rw [← hn] at k1 k2
    have k10 : wr.cell? ⟨ob, 0, none⟩ = some (.slice WA n wc') := k1.cell 0
    have n0 : wr.cell? ⟨nb, 0, none⟩ = some (.map (some mb)) := hS.out.1.nk.cell 0
    have HK := Lib.hid (And.intro k1 (And.intro k2 hn))
    have q2 : (n : Int) ≤ (N : Int) := by omega
    clear hnd hle k1 k2 hwc
    by_cases hlt : k < n
    · have hkl : k < od.length := by rw [← hn]; exact hlt
      obtain ⟨q, hq⟩ : ∃ q, WA = some ⟨q, 0, none⟩ := by
        rcases HK.out.2.1.2 with ⟨e, h0⟩ | ⟨g, cap, cur, e, _⟩
        · first | (rw [h0] at hkl; simp at hkl; done) | (simp at h0; omega) | omega
        · injection e with e; exact ⟨g, e⟩
      subst hq
      have hpg := hasG_iff.1 (HND.out.1.2 od[k] (List.getElem_mem _))
      obtain ⟨j, hj, hjN⟩ : ∃ j : Nat, od[k] = (j : Int) + 1 ∧ j < N := ⟨(od[k] - 1).toNat, by omega, by omega⟩
      have hck : wr.cell? ⟨q, k, none⟩ = some (.int .i64 ((j : Int) + 1)) := by
        have h := HK.out.2.1.cell hkl
        rw [hj] at h
        exact h
      have hjl : j < ns.length := by rw [← HN.out.1]; exact hjN
      obtain ⟨x, hx⟩ : ∃ x, x = ns[j] := ⟨_, rfl⟩
      obtain ⟨ad, rfl, hc2, hxa, hxb⟩ : ∃ ad, GA = some ad ∧ wr.cell? (ad.add (j * 2)) = some x.vp ∧ x.At wr w.heap.size ∧ (ad.add (j * 2)).block < wr.heap.size := by
        obtain ⟨ad, e, h0, h1, h2, h3⟩ := (HG.out.n.below hS.out.2) j hjl
        exact ⟨ad, e, by rw [hx]; exact h1, by rw [hx]; exact h3, cell_lt h1⟩
      have hps : ptrsG ns ((j : Int) + 1) = x.ps := by
        unfold ptrsG
        rw [show ((j : Int) + 1 - 1).toNat = j by omega, List.getElem?_eq_getElem hjl, ← hx]
      have hit : iterW ns o0 (k + 1) = feedW N od x.ps := by
        have h1 : (iterW ns o0 k)[k]? = some ((j : Int) + 1) := by rw [← hod.out, List.getElem?_eq_getElem hkl, hj]
        rw [iterW_some h1, hps, ← hod.out, ← HN.out.1]
      have hsm := (HSm.out x (by rw [hx]; exact List.getElem_mem _)).1
      have HIt := Lib.hid (And.intro hit hsm)
      have g0 := hS.out.1.gb.two.1
      obtain ⟨xA, xc, xD, xd, xps, xbs⟩ := x
      unfold Nv.vp at hc2
      simp only at hc2 HIt
      obtain ⟨xn, hxn⟩ : ∃ n, n = xps.length := ⟨_, rfl⟩
      rw [← hxn] at hc2
      have hrow : Rd iV wr B xA xps ∧ ∀ ad, xA = some ad → 0 < xps.length → ad.block ≠ ob ∧ ad.block ≠ mb := by
        have h1 := HO.out
        have h2 := HB.out
        have h3 := HS2.out.2.size
        refine ⟨hxa.p.more (by omega), fun a e h => ?_⟩
        obtain ⟨a', e', hb, _⟩ := hxa.p 0 h
        rw [e] at e'
        injection e' with e'
        subst e'
        omega
      have HX := Lib.hid (And.intro hxn hrow)
      have HW := Lib.hid (show ∀ W, Below wr.heap.size wr W → W.cell? ⟨s, 0, none⟩ = some (.slice (some ad) N ca) ∧ W.cell? ⟨ob, 0, none⟩ = some (.slice (some ⟨q, 0, none⟩) n wc') ∧ W.cell? ⟨q, k, none⟩ = some (.int .i64 ((j : Int) + 1)) ∧ W.cell? (ad.add (j * 2)) = some (.slice xA xn xc) from fun W b => ⟨(b.cell (cell_lt g0)).trans g0, (b.cell (cell_lt k10)).trans k10, (b.cell (cell_lt hck)).trans hck, (b.cell (cell_lt hc2)).trans hc2⟩)
      have p1 : (k : Int) < (n : Int) := by omega
      have p2 : (0 : Int) ≤ (k : Int) := by omega
      have p3 : (j : Int) < (N : Int) := by omega
      have p4 : (0 : Int) ≤ (j : Int) := by omega
      clear hkl hpg hj hjN hck hjl hx hxa hxb hps hit hsm g0 hxn hrow hc2
      go_wp2_with fail
      refine cw8_r _ _ _ s ob mb nb q wc' N ca n k j xn xc ad xA HW p1 p2 p3 p4 q0 rfl ?_ ?_ ?_ ?_ ?_
      · rfl
      · rfl
      · rfl
      · rfl
      intro vals w4 hG h20 h30
      unfold IsV at h20 h30
      simp only [putD, Act.put, List.setIfInBounds_toArray, List.set_cons_zero, List.set_cons_succ, h20, h30]
      have b4 : Below wr.heap.size wr w4 := hG
      have H4 := Lib.hid (And.intro (hS.out.1.below b4) (hS.out.2.trans (b4.mono hS.out.2.size)))
      have HX4 := Lib.hid (show xn = xps.length ∧ Rd iV w4 B xA xps ∧ ∀ ad, xA = some ad → 0 < xps.length → ad.block ≠ ob ∧ ad.block ≠ mb from ⟨HX.out.1, HX.out.2.1.below (b4.mono hS.out.1.sz), HX.out.2.2⟩)
      clear hG h20 h30 b4 k10 n0 HW
      go_wp2_with fail
      refine Calls.mono (HC.out w4 od H4.out.1 HND.out.1 xA xc xn xps HX4.out.1 HX4.out.2 HIt.out.2) ?_
      rintro r w5 ⟨rfl, h5, k5⟩
      have H5 := Lib.hid (And.intro h5 (HBk.out _ _ H4.out.2 k5))
      clear h5 k5
      go_wp2_with fail
      go_roundw
      case rel => exact ⟨k + 1, _, by go_num, by omega, Lib.hid HIt.out.1.symm, Lib.hid H5.out⟩
      case measure => simp [Go.RowKit.intOf]; omega
    · have hfin : od = walkL ns fr := by
        rw [hod.out]
        refine walkL_of (by rw [HN0.out.1, HN.out.1]) (by rw [← hod.out, ← hn]; omega) (by rw [← HN.out.1]; omega)
      obtain ⟨l, hm, hcm⟩ := hS.out.1.mp
      have HF := Lib.hid (And.intro hm (And.intro hcm (And.intro hS.out.2 (And.intro (show Rd iV wr wr.heap.size WA od from by have h := HK.out.2.1; rw [hn] at h; exact h.rd) hfin))))
      clear hm hcm hfin
      have HW := Lib.hid (show ∀ W, Below wr.heap.size wr W → W.cell? ⟨ob, 0, none⟩ = some (.slice WA n wc') ∧ W.cell? ⟨nb, 0, none⟩ = some (.map (some mb)) from fun W b => ⟨(b.cell (cell_lt k10)).trans k10, (b.cell (cell_lt n0)).trans n0⟩)
      go_wp2_with fail
      refine cw9_r _ _ _ ob mb nb n wc' WA HW rfl ?_ ?_ ?_
      · rfl
      · rfl
      intro vals w4 hG h2 h3
      unfold IsV at h2 h3
      simp only [putD, Act.put, List.setIfInBounds_toArray, List.set_cons_zero, List.set_cons_succ, h2, h3]
      have HG4 := Lib.hid hG
      clear hG h2 h3 k10 n0
      go_wp2_with fail
      go_ret2
      rw [← HF.out.2.2.2.2]
      have hb := HG4.out
      exact ⟨WA, wc', mb, l, by rw [← hn]; rfl, (HF.out.2.2.2.1.below hb).more hb.size, map_below HF.out.1 hb, HF.out.2.1, HF.out.2.2.1.trans (hb.mono HF.out.2.2.1.size)⟩
end Go.Proofs.YtdppnggchpchgaaDoor
/- canon: pointers by their numbers. Conditions: lengths. -/
namespace Go.Proofs.YtdppnggchpchgaaDoor
set_option linter.unusedVariables false
set_option linter.unusedSimpArgs false
open Go.RowKit Go.Maps
set_option maxHeartbeats 1000000
set_option maxRecDepth 100000
theorem cnum_c (w : World) (A : Option Addr) (c mb : Nat) (ps : List Int) (l : List (Int × Int)) (hr : Rd iV w w.heap.size A ps) (hm : MapIs w (some mb) l) (hl : ps.length ≤ 1000000) (hw : ∀ p ∈ ps, (Lit.int .i64 p).wf = true) : Calls Tryd.prog 27 #[.slice A ps.length c, .map (some mb)] w fun e w' => ∃ A c, e = .returned (.slice A ps.length c) ∧ Ow iV 3 w' w.heap.size (.slice A ps.length c) (ps.map (newP l)) ∧ Below w.heap.size w w' := by
  have HR := Lib.hid hr
  have HM := Lib.hid hm
  have HW := Lib.hid hw
  obtain ⟨N, hN⟩ : ∃ N, N = ps.length := ⟨_, rfl⟩
  have HN := Lib.hid hN
  have q0 : (N : Int) ≤ 1000000 := by omega
  rw [← hN]
  clear hr hm hw hl hN
  go_enter Tryd.func27, Tryd.ntmps27
  go_wp2_with (at_make; refine wp_make (f := iV) oneI rfl _ _ rfl 0 rfl w.heap.size N _ _ _ _ rfl rfl rfl rfl (by omega) (by decide) (Nat.le_refl _) ?_; rintro q w2 hq ho2 hb2 _; have H2 := Lib.hid (And.intro ho2 hb2); have HQ := Lib.hid hq; clear ho2 hb2 hq)
  go_loopw [13] (fun i W => ∃ (k : Nat) (L : List Int), i = .int .i64 k ∧ k ≤ N ∧ Hid (L.length = N ∧ L.take k = (ps.take k).map (newP l)) ∧ Ow iV 3 W w.heap.size (.slice (some ⟨q, 0, none⟩) N N) L ∧ Below w.heap.size w W) (fun i _ => N - (Go.RowKit.intOf i).toNat)
  case atStart => exact ⟨0, _, rfl, Nat.zero_le _, Lib.hid ⟨List.length_replicate, by simp⟩, H2.out⟩
  case round =>
    obtain ⟨k, L, rfl, hk, hL, ho, hB⟩ := hrel
    by_cases hlt : k < N
    · have hkl : k < ps.length := by rw [← HN.out]; exact hlt
      obtain ⟨p, hp⟩ : ∃ p, p = ps[k] := ⟨_, rfl⟩
      obtain ⟨ad, rfl, hcell⟩ : ∃ ad, A = some ad ∧ wr.cell? (ad.add k) = some (.int .i64 p) := by
        obtain ⟨ad, e, _, hc⟩ := (HR.out.below hB) k hkl
        exact ⟨ad, e, by rw [hp]; exact hc⟩
      have hlk := (HM.out.kept (Kept.of_below hB (fun _ => False)) (fun _ _ f => f)).look (HW.out p (by rw [hp]; exact List.getElem_mem _))
      have hkL : k < L.length := by rw [hL.out.1]; exact hlt
      have hf := ho.free k
      have hc := ho.cell (j := k) hkL
      obtain ⟨y, hy⟩ : ∃ y, y = L[k] := ⟨_, rfl⟩
      rw [← hy] at hc
      unfold iV at hc
      obtain ⟨z, hz⟩ : ∃ z, z = (lookI l p).getD 0 := ⟨_, rfl⟩
      rw [← hz] at hlk
      have ho2 : Ow iV 3 (wr.setCell ⟨q, k, none⟩ (.int .i64 z)) w.heap.size (.slice (some ⟨q, 0, none⟩) N N) (L.set k z) := ho.set hkL z
      have hB2 := hB.setCell (p := ⟨q, k, none⟩) (show w.heap.size ≤ q from ho.ge.1) (.int .i64 z)
      have hL2 : (L.set k z).length = N ∧ (L.set k z).take (k + 1) = (ps.take (k + 1)).map (newP l) := by
        refine ⟨by rw [List.length_set]; exact hL.out.1, ?_⟩
        rw [take_snoc (L.set k z) k (by rw [List.length_set]; exact hkL), take_snoc ps k hkl, List.map_append, ← hL.out.2, List.take_set_of_le (Nat.le_refl k)]
        simp [hz, newP, hp]
      have H5 := Lib.hid (And.intro ho2 (And.intro hB2 hL2))
      have hql := ho.ge.2
      have p1 : (0 : Int) ≤ (k : Int) := by omega
      have p2 : (k : Int) < (N : Int) := by omega
      clear hp hL ho hB ho2 hB2 hL2 hkl hkL hy hz
      go_wp2_with fail
      go_roundw
      case rel => exact ⟨k + 1, _, by go_num, by omega, Lib.hid H5.out.2.2, H5.out.1, H5.out.2.1⟩
      case measure => simp [Go.RowKit.intOf]; omega
    · have hfin : L = ps.map (newP l) := by
        have h := hL.out.2
        rwa [List.take_of_length_le (by rw [hL.out.1]; omega), List.take_of_length_le (by rw [← HN.out]; omega)] at h
      have HO := Lib.hid (And.intro ho (And.intro hB hfin))
      clear ho hB hfin hL
      go_wp2_with fail
      go_ret
      refine ⟨_, _, rfl, ?_, HO.out.2.1⟩
      rw [← HO.out.2.2]
      exact HO.out.1
end Go.Proofs.YtdppnggchpchgaaDoor
/- canon.Canon, canon.Same: a graph but for its numbers. Conditions: lengths; numbers of 64 bits. -/
namespace Go.Proofs.YtdppnggchpchgaaDoor
set_option linter.unusedVariables false
set_option linter.unusedSimpArgs false
open Go.RowKit Go.Maps
/-- What Canon works on. -/
structure KCa (w W : World) (mb D oc : Nat) (OA : Option Addr) (vn vr : Value) (l : List (Int × Int)) (od : List Int) : Prop where
  gb : Bk W w.heap.size 25 #[vn, vr]
  rb : Bk W (w.heap.size + 1) 25 #[.slice none 0 0, .slice none 0 0]
  od : Rd iV W W.heap.size OA od
  mp : MapIs W (some mb) l
  bl : Below w.heap.size w W
theorem KCa.below {w W W' : World} {mb D oc : Nat} {OA : Option Addr} {vn vr : Value} {l : List (Int × Int)} {od : List Int} (h : KCa w W mb D oc OA vn vr l od) (hb : Below W.heap.size W W') : KCa w W' mb D oc OA vn vr l od :=
  ⟨h.gb.below hb h.gb.lt, h.rb.below hb h.rb.lt, (h.od.below hb).more hb.size, map_below h.mp hb, h.bl.trans (hb.mono h.bl.size)⟩
theorem ccanon_res {tmps : Array Value} {W : World} {g : Nat} {a b : Value} (hb : Bk W g 25 #[a, b]) (h2 : tmps.getD 2 undef = .pointer (some ⟨g, 0, none⟩)) :
    (results Tryd.f11 tmps).run Tryd.prog W = .ok (.agg #[a, b]) W := by
  have hl := run_loadVar_row (P := Tryd.prog) W g 25 25 #[a, b] (0, 0) _ hb Tryd.underlying25 rfl (by kernel_rfl)
  have h2' : tmps[2]?.getD undef = .pointer (some ⟨g, 0, none⟩) := by simpa using h2
  simp [results, Tryd.results11, h2', asAddr, hl]
theorem pickN_snoc (ns : List Nv) (od l : List Int) (p : Int) : pickN ns od (l ++ [p]) = pickN ns od l ++ [pick1 ns od p] := by unfold pickN; rw [List.map_append]; rfl
set_option maxHeartbeats 4000000
set_option maxRecDepth 100000
theorem canon_g (w : World) (g : Gv) (hg : g.At w w.heap.size) (hs : g.Small) (hs2 : g.r.length ≤ 100000) (hpt : ∀ x ∈ g.n, ∀ p ∈ x.ps, (Lit.int .i64 p).wf = true) (hrt : ∀ r ∈ g.r, (Lit.int .i64 r.t).wf = true) :
    Calls Tryd.prog 11 #[g.v] w fun e w' => ∃ g' : Gv, e = .returned g'.v ∧ g'.At w' w'.heap.size ∧ g'.n.map Nv.m = pickN g.n (walkL g.n (g.r.map (·.t))) (walkL g.n (g.r.map (·.t))) ∧ g'.r = g.r.map (fun r => (⟨r.s, newO (walkL g.n (g.r.map (·.t))) r.t⟩ : Rv)) ∧ Below w.heap.size w w' := by
  have HG := Lib.hid hg
  have HSm := Lib.hid hs
  have HW := Lib.hid (And.intro hpt hrt)
  have HWk := Lib.hid (fun W (b : Below w.heap.size w W) => cwalk_c W g (hg.up b) hs)
  obtain ⟨GA, ca, A2, ca2, ns, rs⟩ := g
  simp only at hs2 HW HWk
  obtain ⟨N, hN⟩ : ∃ N, N = ns.length := ⟨_, rfl⟩
  obtain ⟨M, hM⟩ : ∃ M, M = rs.length := ⟨_, rfl⟩
  have HN := Lib.hid (And.intro hN hM)
  have q0 : (N : Int) ≤ 1000000 := by rw [hN]; exact Int.ofNat_le.2 hs.1
  have q1 : (M : Int) ≤ 100000 := by rw [hM]; exact Int.ofNat_le.2 hs2
  obtain ⟨od, hod⟩ : ∃ od, od = walkL ns (rs.map (·.t)) := ⟨_, rfl⟩
  have HOd := Lib.hid (show od.length ≤ ns.length ∧ ∀ p ∈ od, hasG ns.length p = true from by rw [hod]; exact ⟨walkL_len _ _, (walkL_nd _ _).2⟩)
  unfold Gv.v Gv.vn Gv.vr at HWk ⊢
  simp only at HWk ⊢
  rw [← hN, ← hM, ← hod] at HWk
  rw [← hN, ← hM, ← hod]
  clear hg hs hs2 hpt hrt hN hM hod
  go_enter Tryd.func11, Tryd.ntmps11
  go_wp2_with fail
  obtain ⟨W0, hW0⟩ : ∃ W, W = (w.alloc (.cells #[.slice GA N ca, .slice A2 M ca2] 25)).alloc (.cells #[.slice none 0 0, .slice none 0 0] 25) := ⟨_, rfl⟩
  have hK0 : Bk W0 w.heap.size 25 #[.slice GA N ca, .slice A2 M ca2] ∧ Bk W0 (w.heap.size + 1) 25 #[.slice none 0 0, .slice none 0 0] ∧ Below w.heap.size w W0 := by
    rw [hW0]
    refine ⟨(Bk.new w _ _).alloc _, ?_, (Gw.alloc w _).trans ((Gw.alloc _ _).mono (Gw.alloc w _).size)⟩
    have := Bk.new (w.alloc (.cells #[.slice GA N ca, .slice A2 M ca2] 25)) 25 #[.slice none 0 0, .slice none 0 0]
    simpa using this
  rw [← hW0]
  have H0 := Lib.hid hK0
  clear hW0 hK0
  refine Calls.mono (HWk.out W0 H0.out.2.2) ?_
  rintro r W1 ⟨OA, oc, mb, l, rfl, ho, hm, hcm, b2⟩
  obtain ⟨D, hD⟩ : ∃ D, D = od.length := ⟨_, rfl⟩
  rw [← hD]
  have hKS : KCa w W1 mb D oc OA (.slice GA N ca) (.slice A2 M ca2) l od := ⟨H0.out.1.below b2 H0.out.1.lt, H0.out.2.1.below b2 H0.out.2.1.lt, ho, hm, H0.out.2.2.trans (b2.mono H0.out.2.2.size)⟩
  have HS := Lib.hid hKS
  have HC := Lib.hid (And.intro hcm hD)
  have qD : (D : Int) ≤ 1000000 := by have := HOd.out.1; have := HN.out.1; omega
  have c1 := hKS.rb.lt
  clear ho hm hcm b2 hD hKS H0
  obtain ⟨ob, hob⟩ : ∃ ob, W1.heap.size = ob := ⟨_, rfl⟩
  go_wp2_with fail

  have HOb := Lib.hid hob.symm
  clear hob
  go_loopw [18] (fun i W => ∃ (k m : Nat) (VA : Option Addr) (vc : Nat) (xs : List Nv), i = .int .i64 k ∧ k ≤ D ∧ Hid (xs.map Nv.m = pickN ns od (od.take k)) ∧ Hid (xs.length = m ∧ m = k) ∧ NOwn W (ob + 1) (.slice VA m vc) xs ∧ Bk W ob 25 #[.slice VA m vc, .slice none 0 0] ∧ Below ob W1 W) (fun i _ => D - (Go.RowKit.intOf i).toNat)
  case atStart =>
    refine ⟨0, 0, none, 0, [], rfl, Nat.zero_le _, Lib.hid rfl, Lib.hid ⟨rfl, rfl⟩, NOwn.nil _ _, ?_, ?_⟩
    · rw [HOb.out]; exact Bk.new _ _ _
    · rw [HOb.out]; exact Gw.alloc _ _
  case round =>
    obtain ⟨k, m, VA, vc, xs, rfl, hk, hm, hmx, ho, hb1, hB⟩ := hrel
    have hsz := hb1.lt
    have hSr : KCa w wr mb D oc OA (.slice GA N ca) (.slice A2 M ca2) l od := HS.out.below (HOb.out ▸ hB)
    by_cases hlt : k < D
    · have hko : k < od.length := by rw [← HC.out.2]; exact hlt
      obtain ⟨p, hp⟩ : ∃ p, p = od[k] := ⟨_, rfl⟩
      have hpg := hasG_iff.1 (HOd.out.2 p (by rw [hp]; exact List.getElem_mem _))
      obtain ⟨j, rfl, hj⟩ : ∃ j : Nat, p = (j : Int) + 1 ∧ j < N := ⟨(p - 1).toNat, by omega, by have := HN.out.1; omega⟩
      obtain ⟨ao, rfl, hco⟩ : ∃ ao, OA = some ao ∧ wr.cell? (ao.add k) = some (.int .i64 ((j : Int) + 1)) := by
        obtain ⟨ad, e, _, hc⟩ := hSr.od k hko
        exact ⟨ad, e, by rw [hp]; exact hc⟩
      have hjl : j < ns.length := by rw [← HN.out.1]; exact hj
      obtain ⟨x, hx⟩ : ∃ x, x = ns[j] := ⟨_, rfl⟩
      have hbw : Below w.heap.size w wr := hSr.bl
      obtain ⟨ad, rfl, hc2, hc3, hxa⟩ : ∃ ad, GA = some ad ∧ wr.cell? (ad.add (j * 2)) = some x.vp ∧ wr.cell? ⟨(ad.add (j * 2)).block, (ad.add (j * 2)).off + 1, none⟩ = some x.vd ∧ x.At wr wr.heap.size := by
        obtain ⟨ad, e, _, h1, h2, h3⟩ := (HG.out.n.below hbw) j hjl
        exact ⟨ad, e, by rw [hx]; exact h1, by rw [hx]; exact h2, by rw [hx]; exact h3.more hbw.size⟩
      have hsm := HSm.out.2.2 x (by rw [hx]; exact List.getElem_mem _)
      have hwf := HW.out.1 x (by rw [hx]; exact List.getElem_mem _)
      have HC1 := Lib.hid (fun W (hb : Below wr.heap.size wr W) => cnum_c W x.A x.c mb x.ps l (hxa.up hb).p (map_below hSr.mp hb) (by omega) hwf)
      have HC2 := Lib.hid (fun W (hb : Below wr.heap.size wr W) => clone_c x.bs x.D x.d W (hxa.up hb).b (by omega))
      have hmm : ∀ z : Nv, z.m = (x.ps.map (newP l), x.bs) → (xs ++ [z]).map Nv.m = pickN ns od (od.take (k + 1)) ∧ (xs ++ [z]).length = m + 1 ∧ m + 1 = k + 1 := fun z hz => by
        have e2 : pick1 ns od ((j : Int) + 1) = (x.ps.map (newP l), x.bs) := by rw [pick1_at hjl, ← hx, HC.out.1.map_new]
        rw [take_snoc od k hko, ← hp, pickN_snoc, ← hm.out, e2, List.map_append, List.length_append, hmx.out.1]
        simp [hz, hmx.out.2]
      have HMM := Lib.hid hmm
      obtain ⟨xA, xc, xD, xd, xps, xbs⟩ := x
      unfold Nv.vp at hc2
      unfold Nv.vd at hc3
      unfold NewP at HC2
      simp only at HC1 HC2 hc2 hc3 HMM
      obtain ⟨xn, hxn⟩ : ∃ n, n = xps.length := ⟨_, rfl⟩
      obtain ⟨xm, hxm⟩ : ∃ n, n = xbs.length := ⟨_, rfl⟩
      rw [← hxn] at hc2 HC1
      rw [← hxm] at hc3 HC2
      have p1 : (0 : Int) ≤ (k : Int) := by omega
      have p2 : (k : Int) < (D : Int) := by omega
      have p3 : (0 : Int) ≤ (j : Int) := by omega
      have p4 : (j : Int) < (N : Int) := by omega
      have HX := Lib.hid (And.intro hxn (And.intro hxm hmx.out.1))
      have hmN : (m : Int) ≤ 1000000 := by have := hmx.out.2; omega
      have HO := Lib.hid (And.intro ho (And.intro hb1 hB))
      have hcl := cell_lt hc2
      have hcl' : (ad.add (j * 2)).block < wr.heap.size := hcl
      have g0 := hSr.gb.two.1
      have hgl := hSr.gb.lt
      have hva : (∀ a, VA = some a → ob + 1 ≤ a.block ∧ a.block < wr.heap.size) := fun a e => by
        subst e
        exact ⟨(ho.row.lt a.block rfl).1, (ho.row.lt a.block rfl).2⟩
      have HVA := Lib.hid hva
      have HMX := Lib.hid hmx.out
      have HB1 := Lib.hid hb1
      have HSr := Lib.hid hSr
      clear hx hxa hsm hmm hxn hxm hm hmx ho hB hcl hva hwf hSr hb1 hp hpg hjl hko hbw hj
      go_wp2_with fail
      obtain ⟨W0, hW0⟩ : ∃ W0, W0 = wr.alloc (.cells #[.slice xA xn xc, .slice xD xm xd] 52) := ⟨_, rfl⟩
      have b0 : Below wr.heap.size wr W0 := by rw [hW0]; exact Gw.alloc _ _
      have k0 : Bk W0 wr.heap.size 52 #[.slice xA xn xc, .slice xD xm xd] := by rw [hW0]; exact Bk.new _ _ _
      have z0 : W0.heap.size = wr.heap.size + 1 := by rw [hW0]; simp
      have hW0' := Lib.hid hW0
      rw [← hW0]
      clear hW0
      have B0 := Lib.hid b0
      have K0 := Lib.hid k0
      have Z0 := Lib.hid z0
      have Q0 := Lib.hid (HO.out.2.1.below b0 hsz)
      have hw0 : W0.cell? ⟨ob, 0, none⟩ = some (.slice VA m vc) ∧ W0.cell? ⟨wr.heap.size, 0, none⟩ = some (.slice xA xn xc) ∧ W0.cell? ⟨wr.heap.size, 1, none⟩ = some (.slice xD xm xd) := ⟨Q0.out.cell 0, k0.cell 0, k0.cell 1⟩
      clear b0 k0 z0
      refine region_by_spineU 13 [5, 8, 9, 10, 11, 12, 13] [(0, 28, .pointer (some ⟨ob, 0, none⟩)), (1, 29, .slice VA m vc), (2, 30, .pointer (some ⟨wr.heap.size, 0, none⟩)), (3, 31, .slice xA xn xc), (4, 32, .map (some mb)), (6, 34, .pointer (some ⟨wr.heap.size, 1, none⟩)), (7, 35, .slice xD xm xd)]
        (fun W => W.cell? ⟨ob, 0, none⟩ = some (.slice VA m vc) ∧ W.cell? ⟨wr.heap.size, 0, none⟩ = some (.slice xA xn xc) ∧ W.cell? ⟨wr.heap.size, 1, none⟩ = some (.slice xD xm xd)) (by kernel_rfl) (by kernel_rfl) (by kernel_rfl) (by kernel_rfl) (by kernel_rfl) (by kernel_rfl) (by kernel_rfl) hw0 ?_ ?_
      · intro y hy V ρ hV hρ hcst
        obtain ⟨k1, k2, k3⟩ := hV
        have e4 : ρ (.tmp 4) = .map (some mb) := (hρ 4).trans (by kernel_rfl)
        have e5 : ρ (.tmp 5) = .pointer (some ⟨ob, 0, none⟩) := (hρ 5).trans (by kernel_rfl)
        have e8 : ρ (.tmp 8) = .pointer (some ⟨wr.heap.size, 0, none⟩) := (hρ 8).trans (by kernel_rfl)
        have e28 : ρ (.tmp 28) = .pointer (some ⟨ob, 0, none⟩) := (hρ 28).trans (by kernel_rfl)
        have e30 : ρ (.tmp 30) = .pointer (some ⟨wr.heap.size, 0, none⟩) := (hρ 30).trans (by kernel_rfl)
        have e34 : ρ (.tmp 34) = .pointer (some ⟨wr.heap.size, 1, none⟩) := (hρ 34).trans (by kernel_rfl)
        clear hρ
        simp only [List.mem_cons, List.not_mem_nil, or_false] at hy
        rcases hy with rfl | rfl | rfl | rfl | rfl | rfl | rfl
        all_goals
          refine ⟨_, rfl, ?_⟩
          go_simp
          try rfl
      simp only [putA, putD, Act.put, List.setIfInBounds_toArray, List.set_cons_zero, List.set_cons_succ]
      refine spineU_list rfl rfl rfl ?_
      go_wp2_with fail
      refine Calls.mono (HC1.out _ (B0.out.trans ((Gw.drew W0).mono B0.out.size))) ?_
      rintro r2 V1 ⟨PA, pc, rfl, ho1, v1⟩
      have b1 : Below W0.heap.size W0 V1 := (Gw.drew W0).trans v1
      have B1 := Lib.hid b1
      have O1 := Lib.hid (show Ow iV 3 V1 W0.heap.size (.slice PA xn pc) (xps.map (newP l)) from ho1)
      have K1 := Lib.hid (K0.out.below b1 K0.out.lt)
      have Q1 := Lib.hid (Q0.out.below b1 Q0.out.lt)
      have hw1 : V1.cell? ⟨ob, 0, none⟩ = some (.slice VA m vc) ∧ V1.cell? ⟨wr.heap.size, 0, none⟩ = some (.slice xA xn xc) ∧ V1.cell? ⟨wr.heap.size, 1, none⟩ = some (.slice xD xm xd) := ⟨Q1.out.cell 0, K1.out.cell 0, K1.out.cell 1⟩
      have HW1 := Lib.hid hw1
      clear b1 v1 ho1 hw1 hw0
      go_wp2_with fail
      refine ⟨rfl, (by first | exact HW1.out | exact fun _ => HW1.out), ?_⟩
      refine spineU_list rfl rfl rfl ?_
      go_wp2_with fail
      refine Calls.mono (HC2.out _ (B0.out.trans (B1.out.mono B0.out.size))) ?_
      rintro r3 V2 ⟨DA, dc, rfl, ho2, v2⟩
      have B2 := Lib.hid v2
      have O2 := Lib.hid ho2
      have K2 := Lib.hid (K1.out.below v2 K1.out.lt)
      have Q2 := Lib.hid (Q1.out.below v2 Q1.out.lt)
      have hw2 : V2.cell? ⟨ob, 0, none⟩ = some (.slice VA m vc) ∧ V2.cell? ⟨wr.heap.size, 0, none⟩ = some (.slice xA xn xc) ∧ V2.cell? ⟨wr.heap.size, 1, none⟩ = some (.slice xD xm xd) := ⟨Q2.out.cell 0, K2.out.cell 0, K2.out.cell 1⟩
      have HW2 := Lib.hid hw2
      clear v2 ho2 hw2
      go_wp2_with fail
      refine ⟨rfl, (by first | exact HW2.out | exact fun _ => HW2.out), ?_⟩
      refine spineU_list rfl rfl rfl ?_
      go_wp2_with fail
      refine ⟨rfl, (by first | exact HW2.out | exact fun _ => HW2.out), ?_⟩
      refine spineU_list rfl rfl rfl ?_
      go_wp2_with fail
      have b3 := Gw.alloc V2 (.cells #[.slice PA xn pc, .slice DA xm dc] 52)
      have E3 := Lib.hid (Bk.new V2 52 #[.slice PA xn pc, .slice DA xm dc])
      have B3 := Lib.hid b3
      have Q3 := Lib.hid (Q2.out.below b3 Q2.out.lt)
      have hw3 : (V2.alloc (.cells #[.slice PA xn pc, .slice DA xm dc] 52)).cell? ⟨ob, 0, none⟩ = some (.slice VA m vc) ∧ (V2.alloc (.cells #[.slice PA xn pc, .slice DA xm dc] 52)).cell? ⟨wr.heap.size, 0, none⟩ = some (.slice xA xn xc) ∧ (V2.alloc (.cells #[.slice PA xn pc, .slice DA xm dc] 52)).cell? ⟨wr.heap.size, 1, none⟩ = some (.slice xD xm xd) := ⟨Q3.out.cell 0, (K2.out.below b3 K2.out.lt).cell 0, (K2.out.below b3 K2.out.lt).cell 1⟩
      have HW3 := Lib.hid hw3
      clear b3 hw3
      refine ⟨rfl, (by first | exact HW3.out | exact fun _ => HW3.out), ?_⟩
      refine spineU_list rfl rfl rfl ?_
      obtain ⟨i0, hi, hz0, hz1, hz2⟩ := info_parts infoN
      have hb03 : Below wr.heap.size wr (V2.alloc (.cells #[.slice PA xn pc, .slice DA xm dc] 52)) := B0.out.trans ((B1.out.trans (B2.out.trans (B3.out.mono B2.out.size) |>.mono B1.out.size)).mono B0.out.size)
      have HB03 := Lib.hid hb03
      have ho3 := ownsRow_below HO.out.1.row hb03
      rw [HX.out.2.2] at ho3
      refine wp_appR 2 i0 Tryd.underlying22 hi hz0 hz1 hz2 (by rfl) (by decide) rfl (.tmp 29) (.tmp 38) rfl (ob + 1) _ m _ rfl ho3 ⟨V2.heap.size, 0, none⟩ 1 1 [.slice PA xn pc, .slice DA xm dc] rfl rfl (fun j u hu => ?_) (fun u hu => ?_) (by unfold maxLen; omega) (by omega) (by have := hb03.size; omega) ?_
      · have hj : j < 2 := by have := (List.getElem?_eq_some_iff.1 hu).1; simpa using this
        rw [addr_at, E3.out.cell]
        rcases (show j = 0 ∨ j = 1 by omega) with rfl | rfl
        · simpa using hu
        · simpa using hu
      · simp only [List.mem_cons, List.not_mem_nil, or_false] at hu
        rcases hu with rfl | rfl <;> rfl
      intro v5 w5 ho5 hb5 hg5 hv5
      obtain ⟨A5, c5, rfl⟩ := own_form ho5
      have hgq : ∀ c, (Value.slice VA m vc).ownBlock = some c → ob + 1 ≤ c ∧ c < wr.heap.size := fun c e => by
        obtain ⟨a, e1, e2⟩ := own_sl e
        rw [← e2]; exact HVA.out a e1
      have Q5 := Lib.hid ((hg5.block ob (Nat.lt_of_lt_of_le hsz hb03.size) (fun e => by have := (hgq ob e.symm).1; omega)).trans Q3.out)
      have K5 := Lib.hid ((hg5.block wr.heap.size (Nat.lt_of_lt_of_le (by have := Z0.out; have := B0.out.size; omega) (show W0.heap.size ≤ _ from by have := B1.out.size; have := B2.out.size; have := B3.out.size; omega)) (fun e => by have := (hgq _ e.symm).2; omega)).trans (K2.out.below B3.out K2.out.lt))
      have hw5 : w5.cell? ⟨ob, 0, none⟩ = some (.slice VA m vc) ∧ w5.cell? ⟨wr.heap.size, 0, none⟩ = some (.slice xA xn xc) ∧ w5.cell? ⟨wr.heap.size, 1, none⟩ = some (.slice xD xm xd) := ⟨Bk.cell Q5.out 0, Bk.cell K5.out 0, Bk.cell K5.out 1⟩
      have HW5 := Lib.hid hw5
      have hN5 : NOwn w5 (ob + 1) (.slice A5 (m + 1) c5) (xs ++ [⟨PA, pc, DA, dc, xps.map (newP l), xbs⟩]) := by
        have z1 := B1.out.size
        have z2 := B2.out.size
        have z0 := B0.out.size
        refine NOwn.snoc HO.out.1 hb03 ⟨?_, ?_⟩ ⟨fun c e => ?_, fun c e => ?_, fun c e => ?_⟩ ?_ hg5 hv5
        · have h := (O1.out.below (B2.out.trans (B3.out.mono B2.out.size))).mono (show ob + 1 ≤ W0.heap.size by omega)
          rw [show (⟨PA, pc, DA, dc, xps.map (newP l), xbs⟩ : Nv).vp = .slice PA xn pc from by show Value.slice PA (xps.map (newP l)).length pc = _; rw [List.length_map, ← HX.out.1]]
          exact h
        · have h := (O2.out.below B3.out).mono (show ob + 1 ≤ V1.heap.size by omega)
          rw [show (⟨PA, pc, DA, dc, xps.map (newP l), xbs⟩ : Nv).vd = .slice DA xm dc from by rw [HX.out.2.1]; rfl]
          exact h
        · have h := O1.out
          rw [show (⟨PA, pc, DA, dc, xps.map (newP l), xbs⟩ : Nv).vp = .slice PA xn pc from by show Value.slice PA (xps.map (newP l)).length pc = _; rw [List.length_map, ← HX.out.1]] at e
          have := (h.lt c e).1
          omega
        · have h := O2.out
          rw [HX.out.2.1] at h
          have := (h.lt c e).1
          omega
        · intro e2
          rw [show (⟨PA, pc, DA, dc, xps.map (newP l), xbs⟩ : Nv).vp = .slice PA xn pc from by show Value.slice PA (xps.map (newP l)).length pc = _; rw [List.length_map, ← HX.out.1]] at e
          have h := O1.out
          have h2 := O2.out
          rw [HX.out.2.1] at h2
          have g1 := (h.lt c e).2
          have g2 := (h2.lt c e2).1
          omega
        · rw [HX.out.2.2]
          have h := ho5
          have ec : (⟨PA, pc, DA, dc, xps.map (newP l), xbs⟩ : Nv).cs = [.slice PA xn pc, .slice DA xm dc] := by
            show [Value.slice PA (xps.map (newP l)).length pc, Value.slice DA xbs.length dc] = _
            rw [List.length_map, ← HX.out.1, ← HX.out.2.1]
          rw [ec]
          exact h
      have H5 := Lib.hid (And.intro hN5 (show Below ob W1 w5 from (HO.out.2.2.trans (hb03.mono (by omega))).trans ((Below.refl _ _).grown hg5 (by have := hb03.size; omega) (fun c e => by have := (hgq c e).1; omega))))
      have F5 := Lib.hid (Bk.free Q5.out 0)
      clear ho3 ho5 hb5 hg5 hv5 hgq hw5 hi hz0 hz1 hz2 hb03 hN5
      refine ⟨rfl, (by first | exact HW5.out | exact fun _ => HW5.out), ?_⟩
      refine spineU_list rfl rfl rfl ?_
      go_wp2_with fail
      refine ⟨rfl, (by first | exact HW5.out | exact fun _ => HW5.out), ?_⟩
      refine spineU_list rfl rfl rfl ?_
      have c52 := Bk.cell Q5.out 0
      have f52 := F5.out
      have Q6 := Lib.hid (Bk.set Q5.out 0 (.slice A5 (m + 1) c5))
      go_wp2_with fail
      refine ⟨rfl, trivial, ?_⟩
      unfold SpineU
      have hnq : ob ∉ (Value.slice A5 (m + 1) c5).ownBlock.toList ++ blksN (xs ++ [⟨PA, pc, DA, dc, xps.map (newP l), xbs⟩]) := fun h => by
        have := blks_ge H5.out.1 ob h
        omega
      have H6 := Lib.hid (And.intro (H5.out.1.grown (grown_set w5 ⟨ob, 0, none⟩ (.slice A5 (m + 1) c5)) hnq) (H5.out.2.trans ((Below.refl _ _).setCell (p := ⟨ob, 0, none⟩) (Nat.le_refl _) (.slice A5 (m + 1) c5))))
      clear c52 f52 hnq
      go_wp2_with fail
      go_roundw
      case rel =>
        have hX := HMM.out ⟨PA, pc, DA, dc, xps.map (newP l), xbs⟩ rfl
        have X : ∃ (k' m' : Nat) (VA' : Option Addr) (vc' : Nat) (xs' : List Nv), (Value.int .i64 ((k : Int) + 1)) = .int .i64 k' ∧ k' ≤ D ∧ Hid (xs'.map Nv.m = pickN ns od (od.take k')) ∧ Hid (xs'.length = m' ∧ m' = k') ∧ NOwn (w5.setCell ⟨ob, 0, none⟩ (.slice A5 (m + 1) c5)) (ob + 1) (.slice VA' m' vc') xs' ∧ Bk (w5.setCell ⟨ob, 0, none⟩ (.slice A5 (m + 1) c5)) ob 25 #[.slice VA' m' vc', .slice none 0 0] ∧ Below ob W1 (w5.setCell ⟨ob, 0, none⟩ (.slice A5 (m + 1) c5)) :=
          ⟨k + 1, m + 1, A5, c5, _, by go_num, by omega, Lib.hid hX.1, Lib.hid hX.2, H6.out.1, Q6.out, H6.out.2⟩
        first | exact X | exact ⟨_, _, _, _, _, _, _, _, _, _, _, _, _, _, _, _, _, _, _, _, _, _, _, _, _, _, X, rfl⟩
      case measure => simp [Go.RowKit.intOf]; omega
    · have hkN : k = D := by omega
      have hfin : xs.map Nv.m = pickN ns od od := by
        have := hm.out
        rwa [List.take_of_length_le (by rw [← HC.out.2]; omega)] at this
      have HNod := Lib.hid (And.intro ho (And.intro hfin hmx.out))
      have HSr := Lib.hid hSr
      have HB2 := Lib.hid (And.intro hb1 hB)
      have g0 := hSr.gb.two.2
      clear hkN hfin ho hSr hB hm hmx hb1
      go_wp2_with fail
      obtain ⟨W2, hW2⟩ : ∃ W2, W2 = wr := ⟨_, rfl⟩
      rw [← hW2] at HNod HSr HB2 hsz ⊢
      clear hW2 g0
      have HM9 := Lib.hid hsz
      clear hlt
      go_loopw [45] (fun i W => ∃ (k : Nat) (RA : Option Addr) (rc : Nat) (ys : List Rv), i = .int .i64 k ∧ k ≤ M ∧ Hid (ys = (rs.take k).map (fun r => (⟨r.s, newP l r.t⟩ : Rv))) ∧ ROwn W W2.heap.size (.slice RA k rc) ys ∧ Bk W ob 25 #[.slice VA m vc, .slice RA k rc] ∧ Kept (fun b => b = ob) W2 W) (fun i _ => M - (Go.RowKit.intOf i).toNat)
      case atStart => exact ⟨0, none, 0, [], rfl, Nat.zero_le _, Lib.hid rfl, ROwn.nil _ _, HB2.out.1, Kept.refl _ _⟩
      case round =>
        obtain ⟨k, RA, rc, ys, rfl, hk, hys, hro, hb1, hK⟩ := hrel
        have hobs : ob < wr.heap.size := hb1.lt
        by_cases hlt : k < M
        · have hkl : k < rs.length := by rw [← HN.out.2]; exact hlt
          obtain ⟨x, hx⟩ : ∃ x, x = rs[k] := ⟨_, rfl⟩
          have hbw : Below w.heap.size w wr := HSr.out.bl.trans (hK.below HSr.out.bl.size (fun c e => by rw [e]; have h1 := HOb.out; have h2 := HS.out.bl.size; omega))
          obtain ⟨ad, rfl, hc2, hc3⟩ : ∃ ad, A2 = some ad ∧ wr.cell? (ad.add (k * 2)) = some (.string x.s) ∧ wr.cell? ⟨(ad.add (k * 2)).block, (ad.add (k * 2)).off + 1, none⟩ = some (.int .i64 x.t) := by
            obtain ⟨ad, e, _, h1, h2⟩ := (HG.out.r.below hbw) k hkl
            exact ⟨ad, e, by rw [hx]; exact h1, by rw [hx]; exact h2⟩
          have hwf := HW.out.2 x (by rw [hx]; exact List.getElem_mem _)
          have hmp : MapIs wr (some mb) l := HSr.out.mp.kept hK (fun b e e2 => by injection e with e; have h1 := HOb.out; have h2 := HS.out.mp.lt b (by rw [e]); omega)
          have hnx : ys ++ [⟨x.s, newP l x.t⟩] = (rs.take (k + 1)).map (fun r => (⟨r.s, newP l r.t⟩ : Rv)) := by
            rw [take_snoc rs k hkl, List.map_append, ← hys.out, ← hx]; rfl
          have hyl : ys.length = k := by rw [hys.out, List.length_map, List.length_take]; omega
          obtain ⟨rs', rt⟩ := x
          simp only at hc2 hc3 hwf hnx
          have hlk := (map_below hmp (Gw.alloc wr (.cells #[.string rs', .int .i64 rt] 55))).look hwf
          obtain ⟨z, hz⟩ : ∃ z, z = (lookI l rt).getD 0 := ⟨_, rfl⟩
          rw [← hz] at hlk
          have HNx := Lib.hid (show ys ++ [⟨rs', z⟩] = (rs.take (k + 1)).map (fun r => (⟨r.s, newP l r.t⟩ : Rv)) ∧ ys.length = k from ⟨by rw [← hnx, hz]; rfl, hyl⟩)
          have p1 : (0 : Int) ≤ (k : Int) := by omega
          have p2 : (k : Int) < (M : Int) := by omega
          have e1 := hb1.two.2
          have e1f := hb1.free 1
          have HB3 := Lib.hid (And.intro hb1 (And.intro hro hK))
          have hcl := cell_lt hc2
          have hcl' : (ad.add (k * 2)).block < wr.heap.size := hcl
          clear hx hwf hmp hnx hyl hys hro hK hb1 hz hbw hkl hcl
          obtain ⟨i0, hi, hz0, hz1, hz2⟩ := info_parts infoR
          have HI := Lib.hid (And.intro hi (And.intro hz0 (And.intro hz1 hz2)))
          have b5 : Below wr.heap.size wr ((wr.alloc (.cells #[.string rs', .int .i64 z] 55)).alloc (.cells #[.string rs', .int .i64 z] 55)) := (Gw.alloc wr _).trans ((Gw.alloc _ _).mono (by simp))
          have n5 : Bk ((wr.alloc (.cells #[.string rs', .int .i64 z] 55)).alloc (.cells #[.string rs', .int .i64 z] 55)) (wr.heap.size + 1) 55 #[.string rs', .int .i64 z] := by
            have := Bk.new (wr.alloc (.cells #[.string rs', .int .i64 z] 55)) 55 #[.string rs', .int .i64 z]
            simpa using this
          have HB5 := Lib.hid b5
          have hrow := ownsRow_below HB3.out.2.1 b5
          rw [HNx.out.2] at hrow
          have hnew : ∀ (j : Nat) (u : Value), [Value.string rs', .int .i64 z][j]? = some u → ((wr.alloc (.cells #[.string rs', .int .i64 z] 55)).alloc (.cells #[.string rs', .int .i64 z] 55)).cell? ((⟨wr.heap.size + 1, 0, none⟩ : Addr).add j) = some u := fun j u hu => by
            have hj : j < 2 := by have := (List.getElem?_eq_some_iff.1 hu).1; simpa using this
            rw [addr_at, n5.cell]
            rcases (show j = 0 ∨ j = 1 by omega) with rfl | rfl
            · simpa using hu
            · simpa using hu
          have hone : ∀ u ∈ [Value.string rs', .int .i64 z], u.oneCell' = true := fun u hu => by
            simp only [List.mem_cons, List.not_mem_nil, or_false] at hu
            rcases hu with rfl | rfl <;> rfl
          have HRow := Lib.hid (And.intro hrow (And.intro hnew hone))
          have hwsz : W2.heap.size ≤ wr.heap.size := HB3.out.2.2.size
          have HWz := Lib.hid (show W2.heap.size ≤ ((wr.alloc (.cells #[.string rs', .int .i64 z] 55)).alloc (.cells #[.string rs', .int .i64 z] 55)).heap.size from Nat.le_trans hwsz b5.size)
          clear hi hz0 hz1 hz2 b5 n5 hrow hnew hone hwsz
          go_wp2_with (at_builtin; refine wp_appR 2 i0 Tryd.underlying23 HI.out.1 HI.out.2.1 HI.out.2.2.1 HI.out.2.2.2 (by rfl) (by decide) rfl (.tmp 55) (.tmp 57) rfl W2.heap.size _ k _ rfl HRow.out.1 ⟨wr.heap.size + 1, 0, none⟩ 1 1 [.string rs', .int .i64 z] rfl rfl HRow.out.2.1 HRow.out.2.2 (by unfold maxLen; omega) (by omega) HWz.out ?_; intro v5 w5 ho5 hb5 hg5 hv5; obtain ⟨A5, c5, rfl⟩ := own_form ho5; have hQ5 := (HB3.out.1.below HB5.out hobs).below hb5 HM9.out; have q50 := hQ5.two.2; have q5f := hQ5.free 1; have H5 := Lib.hid (And.intro ho5 (And.intro hb5 hQ5)); clear ho5 hb5 hg5 hv5 hQ5)
          have X : ∃ (k' : Nat) (RA' : Option Addr) (rc' : Nat) (ys' : List Rv), (Value.int .i64 ((k : Int) + 1)) = .int .i64 k' ∧ k' ≤ M ∧ Hid (ys' = (rs.take k').map (fun r => (⟨r.s, newP l r.t⟩ : Rv))) ∧ ROwn (w5.setCell ⟨ob, 1, none⟩ (.slice A5 (k + 1) c5)) W2.heap.size (.slice RA' k' rc') ys' ∧ Bk (w5.setCell ⟨ob, 1, none⟩ (.slice A5 (k + 1) c5)) ob 25 #[.slice VA m vc, .slice RA' k' rc'] ∧ Kept (fun b => b = ob) W2 (w5.setCell ⟨ob, 1, none⟩ (.slice A5 (k + 1) c5)) := by
            obtain ⟨h1, h2, h3⟩ := H5.out
            refine ⟨k + 1, A5, c5, ys ++ [⟨rs', z⟩], by go_num, by omega, Lib.hid HNx.out.1, ?_, h3.set 1 _, ((HB3.out.2.2.trans (Kept.of_below HB5.out _)).bel h2).trans (Kept.set w5 ob 1 _)⟩
            have h4 : ROwn w5 W2.heap.size (.slice A5 (k + 1) c5) (ys ++ [⟨rs', z⟩]) := by
              unfold ROwn
              rw [List.length_append, HNx.out.2, List.flatMap_append]
              exact h1
            refine World.ownsRow.kept h4 (grown_set w5 ⟨ob, 1, none⟩ _) ?_
            cases e : (Value.slice A5 (k + 1) c5).ownBlock with
            | none => exact .inl rfl
            | some c => exact .inr (fun e2 => by injection e2 with e2; have e3 : c = ob := e2; have h5 := (World.ownsRow.lt h4 c e).1; have := HM9.out; omega)
          clear q50 q5f H5 HRow HB3
          go_roundw
          case rel => first | exact X | exact ⟨_, _, _, _, _, _, _, _, _, _, _, _, _, _, _, _, _, X, rfl⟩
          case measure => simp [Go.RowKit.intOf]; omega
        · have hkM : k = M := by omega
          have hyf : ys = rs.map (fun r => (⟨r.s, newP l r.t⟩ : Rv)) := by
            rw [hys.out, List.take_of_length_le (by rw [← HN.out.2]; omega)]
          have hyl : ys.length = k := by rw [hyf, List.length_map, ← HN.out.2, hkM]
          have hbw : Below w.heap.size w wr := HSr.out.bl.trans (hK.below HSr.out.bl.size (fun c e => by rw [e]; have h1 := HOb.out; have h2 := HS.out.bl.size; omega))
          have h1 := HOb.out
          have h2 := HS.out.bl.size
          have h3 := HS.out.rb.lt
          have hrb : Bk wr (w.heap.size + 1) 25 #[.slice none 0 0, .slice none 0 0] := hK.bk HSr.out.rb (fun e => by omega)
          have hno : NOwn wr (ob + 1) (.slice VA m vc) xs := HNod.out.1.grown hK.gr (fun h => by have := blks_ge HNod.out.1 _ h; omega)
          have d0 := hrb.two.1
          have d1 := hrb.two.2
          have d2 := hrb.free 0
          have d3 := hrb.free 1
          have e0 := hb1.two.1
          have e1 := hb1.two.2
          have HF := Lib.hid (And.intro hno (And.intro hro (And.intro hbw (And.intro hyf (And.intro hyl (And.intro h1 (And.intro h2 (And.intro h3 hrb))))))))
          clear hno hro hbw hyf hyl h1 h2 h3 hrb hK hb1 hys hkM
          go_wp2_with fail
          obtain ⟨o1, o2, o4, o5, o6, o7, o8, o9, o10⟩ := HF.out
          have hbz : Bk ((wr.setCell ⟨w.heap.size + 1, 0, none⟩ (.slice VA m vc)).setCell ⟨w.heap.size + 1, 1, none⟩ (.slice RA k rc)) (w.heap.size + 1) 25 #[.slice VA m vc, .slice RA k rc] := by
            have h := (o10.set 0 (.slice VA m vc)).set 1 (.slice RA k rc)
            simpa using h
          refine bodyPost_ret (v := .agg #[.slice VA m vc, .slice RA k rc]) (ccanon_res hbz rfl) rfl ?_
          have hg0 : ∀ W : World, ∀ i u, W.grownBy (W.setCell ⟨w.heap.size + 1, i, none⟩ u) (some (w.heap.size + 1)) := fun W i u => grown_set W ⟨w.heap.size + 1, i, none⟩ u
          have hnin : w.heap.size + 1 ∉ (Value.slice VA m vc).ownBlock.toList ++ blksN xs := fun h => by
            have := blks_ge o1 _ h
            omega
          have r2 : (Value.slice RA k rc).ownBlock = none ∨ (Value.slice RA k rc).ownBlock ≠ some (w.heap.size + 1) := by
            cases e : (Value.slice RA k rc).ownBlock with
            | none => exact .inl rfl
            | some c => exact .inr (fun e2 => by injection e2 with e2; have h1 := (World.ownsRow.lt o2 c e).1; have h2 := HM9.out; omega)
          have h9 := HM9.out
          have hT1 : NOwn ((wr.setCell ⟨w.heap.size + 1, 0, none⟩ (.slice VA m vc)).setCell ⟨w.heap.size + 1, 1, none⟩ (.slice RA k rc)) w.heap.size (.slice VA xs.length vc) xs := by
            rw [HNod.out.2.2.1]
            exact ((o1.grown (hg0 _ _ _) hnin).grown (hg0 _ _ _) hnin).mono (by omega)
          have hT2 : ROwn ((wr.setCell ⟨w.heap.size + 1, 0, none⟩ (.slice VA m vc)).setCell ⟨w.heap.size + 1, 1, none⟩ (.slice RA k rc)) w.heap.size (.slice RA ys.length rc) ys := by
            rw [o6]
            exact ROwn.mono (World.ownsRow.kept (World.ownsRow.kept o2 (hg0 _ _ _) r2) (hg0 _ _ _) r2) (by omega)
          refine ⟨⟨VA, vc, RA, rc, xs, ys⟩, ?_, ⟨hT1.rows.1, hT2.rows.1, hT1.rows.2.2, hT2.rows.2.2⟩, HNod.out.2.1, ?_, ?_⟩
          · show _ = Ending.returned (Value.agg #[.slice VA xs.length vc, .slice RA ys.length rc])
            rw [HNod.out.2.2.1, o6]
          · show ys = _
            rw [o5]
            exact List.map_congr_left fun r _ => by rw [show newP l r.t = newO od r.t from HC.out.1.at_ _]
          · exact ((o4.setCell (p := ⟨w.heap.size + 1, 0, none⟩) (by show w.heap.size ≤ w.heap.size + 1; omega) _).setCell (p := ⟨w.heap.size + 1, 1, none⟩) (by show w.heap.size ≤ w.heap.size + 1; omega) _)
end Go.Proofs.YtdppnggchpchgaaDoor
/- What a trimmed graph is, and what it is trimmed again (pure). No conditions. -/
namespace Go.Proofs.YtdppnggchpchgaaDoor
set_option linter.unusedVariables false
set_option linter.unusedSimpArgs false
open Go.RowKit Go.Maps
theorem ck_zero {g : Gv} (h : ckG g = 0) : ckNodes g.n.length g.n = 0 ∧ g.r.length ≤ 64 ∧ ckRoots g.n.length emptyS g.r = 0 := by
  unfold ckG at h
  by_cases c : ckNodes g.n.length g.n = 0
  · rw [if_pos c] at h
    by_cases d : 64 < g.r.length
    · rw [if_pos d] at h; cases h
    · rw [if_neg d] at h; exact ⟨c, by omega, h⟩
  · rw [if_neg c] at h; exact absurd h c
section
variable {ns tn : List Nv} {od : List Int}
theorem Pk.okp (h : Pk ns od tn) {q : Int} (hq : q = 0 ∨ q ∈ od) : okP tn.length (newO od q) = true := by
  unfold okP
  rw [Bool.or_eq_true, beq_iff_eq]
  rcases hq with rfl | hq
  · left; exact h.zero
  · right; exact h.hasN hq
theorem Pk.each (h : Pk ns od tn) {y : Nv} (hy : y ∈ tn) : ∃ p x, p ∈ od ∧ ns[(p - 1).toNat]? = some x ∧ y.ps = x.ps.map (newO od) ∧ y.bs = x.bs := by
  obtain ⟨i, hi, e⟩ := List.mem_iff_getElem.1 hy
  have hio : i < od.length := by rw [← h.len]; exact hi
  obtain ⟨x, z, h1, h2, h3, h4⟩ := h.node (List.getElem_mem hio)
  have e2 := newO_get h.nd (List.getElem?_eq_getElem hio)
  rw [e2, show ((i : Int) + 1 - 1).toNat = i by omega, List.getElem?_eq_getElem hi] at h2
  injection h2 with h2
  rw [← e, h2]
  exact ⟨_, x, List.getElem_mem hio, h1, h3, h4⟩
theorem Pk.okn (h : Pk ns od tn) : ∀ y ∈ tn, ∀ q ∈ y.ps, okP tn.length q = true := fun y hy q hq => by
  obtain ⟨p, x, hp, hx, e, _⟩ := h.each hy
  rw [e] at hq
  obtain ⟨r, hr, rfl⟩ := List.mem_map.1 hq
  exact h.okp (h.cl p hp r (by unfold ptrsG; rw [hx]; exact hr))
end
def wordsM : List (List Int × List (BitVec 8)) → Int
  | [] => 0
  | x :: r => sizeH x.1.length x.2.length false 0 + wordsM r
end Go.Proofs.YtdppnggchpchgaaDoor
