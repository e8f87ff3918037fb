/- One operation, by its operands' values alone; facts on what it leaves. No conditions. -/
import Derived.Test.YtdfhdgdhhgabbaaReg
import Derived.Test.YtdfhdgdhhgabbaaBel
namespace Go.Proofs.Ytdfhdgdhhgabbaa
set_option linter.unusedVariables false
set_option linter.unusedSimpArgs false
open Go.RowKit
/-- Operation op, of operands ρ, comes to a value and a world as R says. -/
def OpV (P : Program) (op : Op) (type : TypeId) (ρ : Operand → Value) (w : World) (R : Value → World → Prop) : Prop :=
  ∃ n w1, (execOp ρ { dst := none, op, type, pos := "", after := #[], guard := none }).run P w = .ok n w1 ∧ match n with
    | .value v => R v w1
    | .skip => R undef w1
    | .enter f args => Calls P f args w1 fun e w2 => ∃ v, e = .returned v ∧ R v w2
    | _ => False
theorem execOp_of (ρ : Operand → Value) (o : Oper) : execOp ρ o = execOp ρ { dst := none, op := o.op, type := o.type, pos := "", after := #[], guard := none } := by
  obtain ⟨dst, op, type, pos, after, guard⟩ := o
  cases op <;> rfl
section
variable {P : Program} {op : Op} {type : TypeId} {ρ : Operand → Value} {w w1 : World} {R : Value → World → Prop} {v : Value} {f : FuncId} {args : Array Value}
theorem opv_val (h : (execOp ρ { dst := none, op, type, pos := "", after := #[], guard := none }).run P w = .ok (.value v) w1) (hR : R v w1) : OpV P op type ρ w R := ⟨_, _, h, hR⟩
theorem opv_enter (h : (execOp ρ { dst := none, op, type, pos := "", after := #[], guard := none }).run P w = .ok (.enter f args) w1) (hR : Calls P f args w1 fun e w2 => ∃ v, e = .returned v ∧ R v w2) : OpV P op type ρ w R := ⟨_, _, h, hR⟩
theorem opv_wp {o : Oper} {a : Act} {K : Act → World → Prop} (h : OpV P o.op o.type a.eval w R) (hk : ∀ v w', R v w' → K (a.put o.dst v) w') : Oper.wp P o a w K NoQ := by
  obtain ⟨n, w1, hr, h⟩ := h
  unfold Oper.wp
  rw [execOp_of, hr]
  cases n <;> simp only [Oper.upon] at h ⊢ <;> first | exact hk _ _ h | exact h.elim | skip
  case enter f args =>
    refine Calls.mono h fun e w'' he => ?_
    obtain ⟨v, rfl, hR⟩ := he
    exact hk _ _ hR
end
section
variable {P : Program} {ops : Array Oper} {Q : Exit → Act → World → Prop} {G : World → World → Prop} {F : Nat → Value → World → Prop} {a0 : Act} {w0 : World}
def callsB : Op → Bool | .defer _ => false | .select .. => false | _ => true
/-- What is known of operation i: what it does, and that it has no guard. -/
def isOpB (ops : Array Oper) (i : Nat) (op : Op) (type : TypeId) : Prop := ∃ o, ops[i]? = some o ∧ o.op = op ∧ o.type = type
theorem isOp_mk {i : Nat} {op : Op} {type : TypeId} (h : (ops[i]?).map (fun o => (o.op, o.type)) = some (op, type)) : isOpB ops i op type := by
  cases ho : ops[i]? with
  | none => rw [ho] at h; cases h
  | some o =>
    rw [ho] at h
    simp only [Option.map_some, Option.some.injEq, Prod.mk.injEq] at h
    exact ⟨o, ho, h.1, h.2⟩
theorem owes_v {i : Nat} (op : Op) (type : TypeId) (js : List Nat) (ho : (ops[i]?).map (fun o => (o.op, o.type)) = some (op, type)) (hg : (ops[i]?).bind (·.guard) = none) (hsee : seesB ops i js = true)
    (hnd : callsB op = true)
    (h : ∀ (vals : Nat → Value) (w : World) (ρ : Operand → Value), G w0 w → (∀ j ∈ js, F j (vals j) w) → (∀ t, ρ (.tmp t) = (putL ops vals js a0).tmps.getD t undef) → (∀ c, ρ (.const c) = c) → (∀ f, ρ (.func f) = .func (.func f) #[] #[]) →
      OpV P op type ρ w fun v w' => G w w' ∧ F i v w') : Owes P ops Q G F a0 w0 i := by
  obtain ⟨o, h1, h2, h3⟩ := isOp_mk ho
  subst h2 h3
  rw [h1] at hg
  exact owes_of js h1 hg hsee (by revert hnd; cases o.op <;> simp [callsB]) fun vals w hG hF K hK => opv_wp (h vals w (putL ops vals js a0).eval hG hF (fun t => rfl) (fun c => rfl) (fun f => rfl)) fun v w' hr => hK v w' hr.1 hr.2
theorem owes_vif {i k : Nat} {want : Bool} (op : Op) (type : TypeId) (c : Bool) (js : List Nat) (ho : (ops[i]?).map (fun o => (o.op, o.type)) = some (op, type)) (hg : (ops[i]?).bind (·.guard) = some (k, want)) (hk : waitsB ops i k = true) (hc : ∀ v w, F k v w → v = .bool c)
    (hsz : ∀ d, dstOf ops k = some d → d < a0.tmps.size) (hkd : (dstOf ops k).isSome = true) (hsee : seesB ops i js = true)
    (hnd : callsB op = true)
    (yes : c = want → ∀ (vals : Nat → Value) (w : World) (ρ : Operand → Value), G w0 w → (∀ j ∈ js, F j (vals j) w) → (∀ t, ρ (.tmp t) = (putL ops vals js a0).tmps.getD t undef) → (∀ c, ρ (.const c) = c) → (∀ f, ρ (.func f) = .func (.func f) #[] #[]) →
      OpV P op type ρ w fun v w' => G w w' ∧ F i v w')
    (no : c ≠ want → ∀ w, G w0 w → G w w ∧ F i undef w) : Owes P ops Q G F a0 w0 i := by
  obtain ⟨o, h1, h2, h3⟩ := isOp_mk ho
  subst h2 h3
  rw [h1] at hg
  exact owes_if c js h1 hg hk hc hsz hkd hsee (by revert hnd; cases o.op <;> simp [callsB]) (fun e vals w hG hF K hK => opv_wp (yes e vals w (putL ops vals js a0).eval hG hF (fun t => rfl) (fun c => rfl) (fun f => rfl)) fun v w' hr => hK v w' hr.1 hr.2) no
end
section
variable {P : Program} {ops : Array Oper} {Q : Exit → Act → World → Prop} {F : Nat → Value → World → Prop} {a0 : Act} {w0 : World}
theorem gw_self (w : World) : Below w.heap.size w w := Below.refl _ _
def copies (t : Tmp) : Op → Bool
  | .move (.tmp u) => u == t
  | .assign (.tmp u) => u == t
  | _ => false
theorem copies_run {P : Program} {op : Op} {type : TypeId} {t : Tmp} {ρ : Operand → Value} {w : World} (h : copies t op = true) : (execOp ρ { dst := none, op, type, pos := "", after := #[], guard := none }).run P w = .ok (.value (ρ (.tmp t))) w := by
  cases op <;> simp only [copies] at h <;> try cases h
  all_goals
    rename_i x
    cases x <;> simp only [beq_iff_eq] at h <;> try cases h
    rfl
/-- A copy of a slot that is as it was. -/
theorem owes_mv {i : Nat} (t : Tmp) {c : Value} (ho : ((ops[i]?).map fun o => copies t o.op) = some true) (hg : (ops[i]?).bind (·.guard) = none) (hsee : seesB ops i [] = true) (hv : a0.tmps.getD t undef = c) (hF : ∀ w, F i c w) :
    Owes P ops Q (fun w w' => Below w.heap.size w w') F a0 w0 i := by
  cases hi : ops[i]? with
  | none => rw [hi] at ho; cases ho
  | some o =>
    rw [hi] at ho
    simp only [Option.map_some, Option.some.injEq] at ho
    refine owes_v o.op o.type [] (by rw [hi]; rfl) hg hsee (by revert ho; cases o.op <;> simp [copies, callsB]) fun vals w ρ hG hF' hρ hc hf => ?_
    exact opv_val (copies_run ho) ⟨gw_self _, by rw [hρ t]; show F i (a0.tmps.getD t undef) w; rw [hv]; exact hF w⟩
/-- A copy of what operation j leaves. -/
theorem owes_mvj {i : Nat} (j : Nat) (t : Tmp) (ho : ((ops[i]?).map fun o => copies t o.op) = some true) (hg : (ops[i]?).bind (·.guard) = none) (hsee : seesB ops i [j] = true) (hd : dstOf ops j = some t) (hl : t < a0.tmps.size) (hF : ∀ v w, F j v w → F i v w) :
    Owes P ops Q (fun w w' => Below w.heap.size w w') F a0 w0 i := by
  cases hi : ops[i]? with
  | none => rw [hi] at ho; cases ho
  | some o =>
    rw [hi] at ho
    simp only [Option.map_some, Option.some.injEq] at ho
    refine owes_v o.op o.type [j] (by rw [hi]; rfl) hg hsee (by revert ho; cases o.op <;> simp [copies, callsB]) fun vals w ρ hG hF' hρ hc hf => ?_
    refine opv_val (copies_run ho) ⟨gw_self _, ?_⟩
    rw [hρ t]
    unfold putL putL
    rw [hd, put_same _ _ _ hl]
    exact hF _ _ (hF' j (.head _))
/-- What operation j has left, in its slot. -/
def slotB (ops : Array Oper) (js : List Nat) (j : Nat) (d : Tmp) : Bool := js.reverse.find? (fun k => dstOf ops k == some d) == some j
theorem putL_append {vals : Nat → Value} (xs ys : List Nat) : ∀ a : Act, putL ops vals (xs ++ ys) a = putL ops vals ys (putL ops vals xs a) := by
  induction xs with
  | nil => intro a; rfl
  | cons x xs ih => intro a; exact ih _
/-- What operation j has left, in its slot. -/
theorem slotJ {vals : Nat → Value} {j : Nat} {d : Tmp} (js : List Nat) (hl : d < a0.tmps.size) (hb : slotB ops js j d = true) : (putL ops vals js a0).tmps.getD d undef = vals j := by
  unfold slotB at hb
  rw [beq_iff_eq] at hb
  have key : ∀ l : List Nat, l.find? (fun k => dstOf ops k == some d) = some j → (putL ops vals l.reverse a0).tmps.getD d undef = vals j := by
    intro l
    induction l with
    | nil => intro h; cases h
    | cons x l ih =>
      intro h
      rw [List.reverse_cons, putL_append]
      show ((putL ops vals l.reverse a0).put (dstOf ops x) (vals x)).tmps.getD d undef = vals j
      rw [List.find?_cons] at h
      by_cases e : dstOf ops x = some d
      · rw [e] at h ⊢
        simp only [beq_self_eq_true, Option.some.injEq] at h
        subst h
        exact put_same _ _ _ (by rw [putL_size]; exact hl)
      · rw [put_other _ _ _ _ e]
        have e2 : (dstOf ops x == some d) = false := by rw [beq_eq_false_iff_ne]; exact e
        rw [e2] at h
        exact ih h
  have := key js.reverse hb
  rwa [List.reverse_reverse] at this
/-- A slot that none of them writes. -/
theorem slotO {vals : Nat → Value} {t : Tmp} (js : List Nat) (hb : js.all (fun k => dstOf ops k != some t) = true) : (putL ops vals js a0).tmps.getD t undef = a0.tmps.getD t undef := by
  have : ∀ (js : List Nat) (a : Act), js.all (fun k => dstOf ops k != some t) = true → (putL ops vals js a).tmps.getD t undef = a.tmps.getD t undef := by
    intro js
    induction js with
    | nil => intro a _; rfl
    | cons j js ih =>
      intro a h
      rw [List.all_cons, Bool.and_eq_true] at h
      unfold putL
      rw [ih _ h.2, put_other _ _ _ _ (by simpa using h.1)]
  exact this js a0 hb
/-- An operation under a guard that lets it. -/
theorem owes_vt {i : Nat} (k : Nat) (c : Bool) (op : Op) (type : TypeId) (js : List Nat) (ho : (ops[i]?).map (fun o => (o.op, o.type)) = some (op, type)) (hg : (ops[i]?).bind (·.guard) = some (k, c)) (hk : waitsB ops i k = true) (hc : ∀ v w, F k v w → v = .bool c)
    (hsz : ((dstOf ops k).map fun d => decide (d < a0.tmps.size)) = some true) (hsee : seesB ops i js = true) (hnd : callsB op = true) {G : World → World → Prop}
    (yes : ∀ (vals : Nat → Value) (w : World) (ρ : Operand → Value), G w0 w → (∀ j ∈ js, F j (vals j) w) → (∀ t, ρ (.tmp t) = (putL ops vals js a0).tmps.getD t undef) → (∀ c, ρ (.const c) = c) → (∀ f, ρ (.func f) = .func (.func f) #[] #[]) →
      OpV P op type ρ w fun v w' => G w w' ∧ F i v w') : Owes P ops Q G F a0 w0 i := by
  refine owes_vif op type c js ho hg hk hc ?_ ?_ hsee hnd (fun _ => yes) (fun h => absurd rfl h)
  · intro d hd; rw [hd] at hsz; simpa using hsz
  · cases hd : dstOf ops k with
    | none => rw [hd] at hsz; cases hsz
    | some d => rfl
/-- An operation under a guard that does not let it. -/
theorem owes_no {i : Nat} (k : Nat) (c want : Bool) (hne : c ≠ want) (hg : (ops[i]?).bind (·.guard) = some (k, want)) (hk : waitsB ops i k = true) (hc : ∀ v w, F k v w → v = .bool c)
    (hsz : ((dstOf ops k).map fun d => decide (d < a0.tmps.size)) = some true) (hF : ∀ w, F i undef w) : Owes P ops Q (fun w w' => Below w.heap.size w w') F a0 w0 i := by
  cases hi : ops[i]? with
  | none => rw [hi] at hg; cases hg
  | some o =>
    rw [hi] at hg
    intro a w hG hd hs hF' hR
    have hy : yielded ops a.tmps k = some c := by
      have h1 := hc _ _ (hF' k hk)
      unfold valAt at h1
      unfold yielded
      cases hkd : dstOf ops k with
      | none => rw [hkd] at hsz; cases hsz
      | some d =>
        rw [hkd] at hsz h1
        have hl : d < a.tmps.size := by rw [hs]; simpa using hsz
        unfold dstOf at hkd
        rw [hkd]
        simp only [Option.bind_some] at h1 ⊢
        rw [Array.getD_eq_getD_getElem?, Array.getElem?_eq_getElem hl] at h1
        rw [Array.getElem?_eq_getElem hl]
        simp only [Option.getD_some] at h1
        rw [h1]
    unfold wpOp
    rw [hi]
    have hw : Region.wanted o (yielded ops a.tmps) = false := by
      unfold Region.wanted
      rw [show o.guard = some (k, want) from hg]
      simp only [hy]
      cases c <;> cases want <;> simp_all
    simp only [hw, Bool.false_eq_true, if_false]
    exact ⟨undef, by unfold dstOf; rw [hi]; rfl, Below.refl _ _, hF _⟩
end
/-- 'make([]T, n)'. -/
theorem opv_make {P : Program} {α : Type} {f : α → Value} {t e : TypeId} {z : Value} {bytes : Nat} {w : World} {ρ : Operand → Value} {type : TypeId} {R : Value → World → Prop} (one : One P t e z bytes) (zf : α) (hz0 : f zf = z) {l : Operand} {kl : IntKind} {n : Nat} (hl : ρ l = .int kl (n : Int)) (hn : n ≤ 4294967296) (hby : bytes ≤ 32768)
    (h : ∀ w', Ow f e w' w.heap.size (.slice (some ⟨w.heap.size, 0, none⟩) n n) (List.replicate n zf) → Below w.heap.size w w' → R (.slice (some ⟨w.heap.size, 0, none⟩) n n) w') : OpV P (.makeSlice t l l) type ρ w R := by
  obtain ⟨i, hi, hz, hsize, hbytes⟩ := one.info
  have hbb : i.bytes * n ≤ 281474976710656 := by
    rw [hbytes]
    have := Nat.mul_le_mul hby hn
    omega
  obtain ⟨w', hr, ho, hg⟩ := run_make_full (P := P) w w.heap.size t e i z 1 one.under hi hz hsize kl kl n hbb (by simp only [maxLen]; omega) (Nat.le_refl _)
  refine opv_val (v := .slice (some ⟨w.heap.size, 0, none⟩) n n) (w1 := w') ?_ (h w' ?_ ((Below.refl _ _).grown hg (Nat.le_refl _) (by simp)))
  · unfold execOp
    simp only [hl]
    simp only [Sem.run_bind, hr, Result.andThen_ok]
    rfl
  · have e : (madeCells z.cells (n * 1)).toList = (List.replicate n zf).map f := by
      rw [one.cell, toList_madeCells_one, List.map_replicate, hz0, Nat.mul_one]
    rw [e] at ho
    unfold Ow
    rw [List.length_replicate]
    exact ho
/-- The operations of region n. -/
def regOf (n : Nat) : Code → Array Oper
  | .region id ops _ => if id == n then ops else #[]
  | .seq a b => let x := regOf n a; if x.isEmpty then regOf n b else x
  | .cond _ a b => let x := regOf n a; if x.isEmpty then regOf n b else x
  | .block _ c => regOf n c
  | .loop c => regOf n c
  | _ => #[]
def regIn (f : Func) (n : Nat) : Array Oper := regOf n (f.body.getD .skip)
/-- p of n numbers, from k on. -/
def AllN (p : Nat → Prop) : Nat → Nat → Prop
  | 0, _ => True
  | n + 1, k => p k ∧ AllN p n (k + 1)
theorem AllN.at_ {p : Nat → Prop} : ∀ (n k : Nat), AllN p n k → ∀ i, k ≤ i → i < k + n → p i
  | 0, k, _, i, h1, h2 => absurd h2 (by omega)
  | n + 1, k, h, i, h1, h2 => by
    by_cases e : i = k
    · subst e; exact h.1
    · exact AllN.at_ n (k + 1) h.2 i (by omega) (by omega)
def putD (vals : Nat → Value) : List Tmp → Nat → Act → Act
  | [], _, a => a
  | d :: ds, k, a => putD vals ds (k + 1) (a.put (some d) (vals k))
theorem putD_eq {ops : Array Oper} (vals : Nat → Value) : ∀ (ds : List Tmp) (n k : Nat) (a : Act), (List.range' k n).map (dstOf ops) = ds.map some → putL ops vals (List.range' k n) a = putD vals ds k a
  | [], n, k, a, h => by
    have : n = 0 := by simpa using congrArg List.length h
    subst this; rfl
  | d :: ds, 0, k, a, h => by simp at h
  | d :: ds, n + 1, k, a, h => by
    rw [List.range'_succ, List.map_cons, List.map_cons] at h
    injection h with h1 h2
    rw [List.range'_succ]
    unfold putL putD
    rw [h1]
    exact putD_eq vals ds n (k + 1) _ h2
/-- region_facts, by lists. -/
theorem region_by {P : Program} {ops : Array Oper} {Q : Exit → Act → World → Prop} {G : World → World → Prop} {a0 : Act} {w0 : World} {id : Nat} (Fs : List (Value → World → Prop)) (ds : List Tmp)
    (hm : P.follows .mixedOrders = true) (hrefl : G w0 w0.drew) (htrans : ∀ a b c, G a b → G b c → G a c)
    (hreg : regB ops a0.tmps.size = true) (hds : (List.range' 0 ops.size).map (dstOf ops) = ds.map some)
    (hmono : ∀ f ∈ Fs, ∀ v a b, f v a → G a b → f v b)
    (howes : AllN (Owes P ops Q G (fun j => Fs.getD j fun _ _ => True) a0 w0) ops.size 0)
    (fin : ∀ (vals : Nat → Value) (w : World), G w0 w → (∀ j, j < ops.size → (Fs.getD j fun _ _ => True) (vals j) w) → Q .normal (putD vals ds 0 a0) w) :
    (Code.region id ops true).wp P Q a0 w0 := by
  refine region_facts hm hrefl htrans ?_ hreg (fun i hi => howes.at_ _ _ i (by omega) (by omega)) ?_
  · intro j _ v a b h g
    rw [List.getD_eq_getElem?_getD] at h ⊢
    cases hj : Fs[j]? with
    | none => rw [hj] at h; exact trivial
    | some f => rw [hj] at h; exact hmono f (List.mem_of_getElem? hj) v a b h g
  · intro vals w hG hF
    rw [List.range_eq_range', putD_eq vals ds ops.size 0 a0 hds]
    exact fin vals w hG hF
theorem wrapIn {v : Int} (h1 : -9223372036854775808 ≤ v) (h2 : v ≤ 9223372036854775807) : IntKind.i64.wrap v = v := by rw [IntKind.wrap_i64]; omega
/-- The worlds of a region whose operations make memory, and turn none. -/
def Gw (w w' : World) : Prop := Below w.heap.size w w'
theorem Gw.rfl_ (w : World) : Gw w w := Below.refl _ _
theorem Gw.drew (w : World) : Below w.heap.size w w.drew := (Below.refl _ _).drew
theorem Gw.trans (a b c : World) (h : Gw a b) (k : Gw b c) : Gw a c := Below.trans h (Below.mono k h.size)
theorem Gw.alloc (w : World) (o : Obj) : Below w.heap.size w (w.alloc o) := (Below.refl _ _).alloc (Nat.le_refl _) o
/-- A value is c. -/
def IsV (c : Value) (v : Value) (_ : World) : Prop := v = c
/-- A slice that reads as xs. -/
def SlV {α : Type} (f : α → Value) (xs : List α) (v : Value) (w : World) : Prop := ∃ A c, v = .slice A xs.length c ∧ xs.length ≤ c ∧ Rd f w w.heap.size A xs
/-- A slice of one slice, that reads as xs. -/
def Sl1 {α : Type} (f : α → Value) (E : TypeId) (xs : List α) (v : Value) (w : World) : Prop := ∃ g A c, v = .slice (some ⟨g, 0, none⟩) 1 1 ∧ Bk w g E #[.slice A xs.length c] ∧ Rd f w w.heap.size A xs
theorem IsV.mono {c v : Value} {a b : World} (h : IsV c v a) : IsV c v b := h
theorem SlV.mono {α : Type} {f : α → Value} {xs : List α} {v : Value} {a b : World} (h : SlV f xs v a) (g : Gw a b) : SlV f xs v b := by
  obtain ⟨A, c, rfl, hc, hr⟩ := h
  exact ⟨A, c, rfl, hc, (hr.below g).more g.size⟩
theorem Sl1.mono {α : Type} {f : α → Value} {E : TypeId} {xs : List α} {v : Value} {a b : World} (h : Sl1 f E xs v a) (g : Gw a b) : Sl1 f E xs v b := by
  obtain ⟨k, A, c, rfl, hb, hr⟩ := h
  exact ⟨k, A, c, rfl, hb.below g hb.lt, (hr.below g).more g.size⟩
theorem Sl1.of {α : Type} {f : α → Value} {E : TypeId} {xs : List α} {A : Option Addr} {c : Nat} {w : World} (hr : Rd f w w.heap.size A xs) : Sl1 f E xs (.slice (some ⟨w.heap.size, 0, none⟩) 1 1) (w.alloc (.cells #[.slice A xs.length c] E)) :=
  ⟨_, A, c, rfl, Bk.new w E _, (hr.alloc (Nat.le_refl _) _).more (by simp)⟩
end Go.Proofs.Ytdfhdgdhhgabbaa
