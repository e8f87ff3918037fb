/- A region that draws its order, by a fact for each of its operations: each is shown once, in whatever world its forerunners leave. No conditions. -/
import Derived.Orders
import Derived.Below
import Derived.Lib.Hide
namespace Go.Proofs.Ytdfhdgdhhgabbaa
set_option linter.unusedVariables false
set_option linter.unusedSimpArgs false
open Go.RowKit
section
variable {P : Program} {ops : Array Oper} {Q : Exit → Act → World → Prop} {G : World → World → Prop} {F : Nat → Value → World → Prop} {a0 : Act} {w0 : World}

def dstOf (ops : Array Oper) (j : Nat) : Option Tmp := (ops[j]?).bind (·.dst)
/-- Does operation i wait for operation j, by an edge of its own? -/
def waitsB (ops : Array Oper) (i j : Nat) : Bool := match ops[i]? with
  | some o => o.after.any fun e => Region.binds .any e && e.on == j
  | none => false
/-- The checks on a region, all by reckoning: each operation has a slot of its own, below size; it waits for elder ones alone; none defers. -/
def regB (ops : Array Oper) (size : Nat) : Bool :=
  (List.range ops.size).all fun i => match ops[i]? with
    | none => false
    | some o =>
      (match o.dst with
       | none => false
       | some d => decide (d < size) && (List.range ops.size).all fun j => j == i || dstOf ops j != some d) &&
      (o.after.all fun e => !Region.binds .any e || decide (e.on < i)) &&
      (match o.op with | .defer _ => false | .select .. => false | _ => true)
/-- Operation i's operands are what the operations js leave, which it waits for, or slots that no operation writes ahead of it. -/
def seesB (ops : Array Oper) (i : Nat) (js : List Nat) : Bool := match ops[i]? with
  | none => false
  | some o => js.all (fun j => waitsB ops i j) && (o.op.operands.toList.filterMap fun | .tmp t => some t | _ => none).all fun t =>
      js.any (fun j => dstOf ops j == some t) || (List.range ops.size).all fun j => dstOf ops j != some t || waitsB ops j i
def putL (ops : Array Oper) (vals : Nat → Value) : List Nat → Act → Act
  | [], a => a
  | j :: js, a => putL ops vals js (a.put (dstOf ops j) (vals j))
def valAt (ops : Array Oper) (a : Act) (j : Nat) : Value := match dstOf ops j with
  | some d => a.tmps.getD d undef
  | none => undef
def NoQ : Exit → Act → World → Prop := fun _ _ _ => False

theorem put_size (a : Act) (d : Option Tmp) (v : Value) : (a.put d v).tmps.size = a.tmps.size := by
  cases d <;> simp [Act.put]
theorem put_same (a : Act) (d : Tmp) (v : Value) (h : d < a.tmps.size) : (a.put (some d) v).tmps.getD d undef = v := by
  simp [Act.put, h]
theorem put_other (a : Act) (d : Option Tmp) (v : Value) (t : Tmp) (h : d ≠ some t) : (a.put d v).tmps.getD t undef = a.tmps.getD t undef := by
  cases d with
  | none => rfl
  | some d =>
    have : d ≠ t := fun e => h (by rw [e])
    simp [Act.put, Array.getElem?_setIfInBounds_ne this]
theorem getD_out (a : Act) (t : Nat) (h : a.tmps.size ≤ t) : a.tmps.getD t undef = undef := by
  rw [Array.getD_eq_getD_getElem?, Array.getElem?_eq_none h]; rfl
theorem put_to (a b : Act) (t : Nat) (hs : b.tmps.size = a.tmps.size) : (b.put (some t) (a.tmps.getD t undef)).tmps.getD t undef = a.tmps.getD t undef := by
  rcases Nat.lt_or_ge t b.tmps.size with hl | hl
  · rw [put_same _ _ _ hl]
  · rw [getD_out _ _ (by rw [put_size]; exact hl), getD_out a t (by rw [← hs]; exact hl)]
theorem putL_size (vals : Nat → Value) (js : List Nat) : ∀ a : Act, (putL ops vals js a).tmps.size = a.tmps.size := by
  induction js with
  | nil => intro a; rfl
  | cons j js ih => intro a; unfold putL; rw [ih, put_size]
theorem putL_defers (vals : Nat → Value) (js : List Nat) : ∀ a : Act, (putL ops vals js a).defers = a.defers := by
  induction js with
  | nil => intro a; rfl
  | cons j js ih => intro a; unfold putL; rw [ih]; cases dstOf ops j <;> rfl
theorem putL_whole (a : Act) (js : List Nat) : ∀ b : Act, b.tmps.size = a.tmps.size → b.defers = a.defers →
    (∀ t, b.tmps.getD t undef = a.tmps.getD t undef ∨ ∃ j ∈ js, dstOf ops j = some t) → putL ops (valAt ops a) js b = a := by
  induction js with
  | nil =>
    intro b hs hd h
    obtain ⟨bt, bd⟩ := b
    obtain ⟨at_, ad⟩ := a
    simp only at hs hd
    subst hd
    have : bt = at_ := by
      apply Array.ext hs
      intro i h1 h2
      have := h i
      simp at this
      rw [Array.getElem?_eq_getElem h1, Array.getElem?_eq_getElem h2] at this
      simpa using this
    rw [this]; rfl
  | cons j js ih =>
    intro b hs hd h
    unfold putL
    apply ih
    · rw [put_size, hs]
    · cases dstOf ops j <;> exact hd
    · intro t
      by_cases e : dstOf ops j = some t
      · left
        unfold valAt
        rw [e]
        simp only
        exact put_to a b t hs
      · rw [put_other _ _ _ _ e]
        rcases h t with h | ⟨k, hk, hkd⟩
        · exact .inl h
        · rw [List.mem_cons] at hk
          rcases hk with rfl | hk
          · exact absurd hkd e
          · exact .inr ⟨k, hk, hkd⟩
theorem putL_at (a : Act) (t : Tmp) (js : List Nat) : ∀ b : Act, b.tmps.size = a.tmps.size → (b.tmps.getD t undef = a.tmps.getD t undef ∨ ∃ j ∈ js, dstOf ops j = some t) →
    (putL ops (valAt ops a) js b).tmps.getD t undef = a.tmps.getD t undef := by
  induction js with
  | nil =>
    intro b hs h
    rcases h with h | ⟨j, hj, _⟩
    · exact h
    · cases hj
  | cons j js ih =>
    intro b hs h
    unfold putL
    apply ih _ (by rw [put_size, hs])
    by_cases e : dstOf ops j = some t
    · left
      unfold valAt
      rw [e]
      simp only
      exact put_to a b t hs
    · rw [put_other _ _ _ _ e]
      rcases h with h | ⟨k, hk, hkd⟩
      · exact .inl h
      · rw [List.mem_cons] at hk
        rcases hk with rfl | hk
        · exact absurd hkd e
        · exact .inr ⟨k, hk, hkd⟩

/-- What operation i owes, at the very state: its fact, of whatever it leaves. -/
def Owes (P : Program) (ops : Array Oper) (Q : Exit → Act → World → Prop) (G : World → World → Prop) (F : Nat → Value → World → Prop) (a0 : Act) (w0 : World) (i : Nat) : Prop :=
  ∀ (a : Act) (w : World), G w0 w → a.defers = a0.defers → a.tmps.size = a0.tmps.size →
    (∀ j, waitsB ops i j = true → F j (valAt ops a j) w) →
    (∀ t, (∀ j, dstOf ops j = some t → waitsB ops j i = true) → a.tmps.getD t undef = a0.tmps.getD t undef) →
    wpOp P ops Q i (fun a' w' => ∃ v, a' = a.put (dstOf ops i) v ∧ G w w' ∧ F i v w') a w
theorem put_eq {A a : Act} {d : Option Tmp} {v v' : Value} (h : A.put d v = A.put d v') (hs : a.tmps.size = A.tmps.size) : a.put d v = a.put d v' := by
  cases d with
  | none => rfl
  | some d =>
    rcases Nat.lt_or_ge d A.tmps.size with hl | hl
    · have h1 := put_same A d v hl
      rw [h, put_same A d v' hl] at h1
      rw [h1]
    · have e : ∀ u, a.put (some d) u = a := fun u => by
        simp only [Act.put]
        rw [Array.setIfInBounds_eq_of_size_le (by rw [hs]; exact hl)]
      rw [e, e]
theorem wp_same {o : Oper} {A a : Act} {w : World} {K1 K2 : Act → World → Prop} (he : execOp A.eval o = execOp a.eval o) (hs : a.tmps.size = A.tmps.size)
    (hnd : match o.op with | .defer _ => False | .select .. => False | _ => True)
    (h : Oper.wp P o A w (fun a' w' => ∃ v, a' = A.put o.dst v ∧ K1 (A.put o.dst v) w') NoQ) (hk : ∀ v w', K1 (A.put o.dst v) w' → K2 (a.put o.dst v) w') :
    Oper.wp P o a w K2 Q := by
  have key : ∀ v w', (∃ v', A.put o.dst v = A.put o.dst v' ∧ K1 (A.put o.dst v') w') → K2 (a.put o.dst v) w' := by
    rintro v w' ⟨v', e, k⟩
    rw [put_eq e hs]
    exact hk _ _ k
  unfold Oper.wp at *
  rw [← he]
  generalize (execOp A.eval o).run P w = r at *
  cases r with
  | ok n w' =>
    cases n <;> simp only [Oper.upon] at h ⊢
    case value u => exact key _ _ h
    case skip => exact key _ _ h
    case defer d =>
      obtain ⟨v, e, _⟩ := h
      exfalso
      have := congrArg Act.defers e
      cases hd : o.dst <;> simp [Act.put, hd] at this
    case enter f args =>
      refine Calls.mono h fun e w'' he => ?_
      cases e with
      | returned u => exact key _ _ he
      | panicked c => exact he.elim
      | outgrown => obtain ⟨_, _, hf⟩ := he; exact hf.elim
    case row row args => exact Rows.mono h fun u w'' he => key _ _ he
  | halt x w' =>
    cases x <;> simp only [Oper.upon] at h ⊢
    case panic u => exact h.elim
theorem waits_some {i j : Nat} (h : waitsB ops i j = true) : ∃ o, ops[i]? = some o ∧ ∃ e ∈ o.after, Region.binds .any e = true ∧ e.on = j := by
  unfold waitsB at h
  cases ho : ops[i]? with
  | none => rw [ho] at h; cases h
  | some o =>
    rw [ho] at h
    simp only at h
    obtain ⟨e, he, hb⟩ := Array.any_eq_true'.1 h
    simp only [Bool.and_eq_true, beq_iff_eq] at hb
    exact ⟨o, rfl, e, he, hb.1, hb.2⟩
/-- An operation that runs whatever comes: by the operations js that it waits for. -/
theorem owes_of {i : Nat} {o : Oper} (js : List Nat) (ho : ops[i]? = some o) (hg : o.guard = none) (hsee : seesB ops i js = true)
    (hnd : match o.op with | .defer _ => False | .select .. => False | _ => True)
    (h : ∀ (vals : Nat → Value) (w : World), G w0 w → (∀ j ∈ js, F j (vals j) w) → ∀ K : Act → World → Prop, (∀ v w', G w w' → F i v w' → K ((putL ops vals js a0).put o.dst v) w') →
      Oper.wp P o (putL ops vals js a0) w K NoQ) : Owes P ops Q G F a0 w0 i := by
  intro a w hG hd hs hF hR
  unfold wpOp
  rw [ho]
  simp only [Region.wanted, hg, if_true]
  left
  have hsee' : (js.all (fun j => waitsB ops i j) = true) ∧ ∀ t ∈ (o.op.operands.toList.filterMap fun | .tmp t => some t | _ => none), js.any (fun j => dstOf ops j == some t) = true ∨ (List.range ops.size).all (fun j => dstOf ops j != some t || waitsB ops j i) = true := by
    unfold seesB at hsee
    rw [ho] at hsee
    simp only [Bool.and_eq_true, List.all_eq_true, Bool.or_eq_true] at hsee
    refine ⟨by rw [List.all_eq_true]; exact hsee.1, fun t ht => ?_⟩
    rcases hsee.2 t ht with h | h
    · exact .inl h
    · right; rw [List.all_eq_true]; simpa using h
  have hjs : ∀ j ∈ js, waitsB ops i j = true := List.all_eq_true.1 hsee'.1
  have ht : ∀ t ∈ (o.op.operands.toList.filterMap fun | .tmp t => some t | _ => none), a0.tmps.getD t undef = a.tmps.getD t undef ∨ ∃ j ∈ js, dstOf ops j = some t := by
    intro t ht
    rcases hsee'.2 t ht with h | h
    · right
      rw [List.any_eq_true] at h
      obtain ⟨j, hj, e⟩ := h
      exact ⟨j, hj, by simpa using e⟩
    · left
      refine (hR t fun j hj => ?_).symm
      rw [List.all_eq_true] at h
      have hlt : j < ops.size := by
        rcases Nat.lt_or_ge j ops.size with hl | hl
        · exact hl
        · unfold dstOf at hj; rw [Array.getElem?_eq_none hl] at hj; cases hj
      have := h j (List.mem_range.2 hlt)
      simpa [hj] using this
  have he : execOp (putL ops (valAt ops a) js a0).eval o = execOp a.eval o := by
    refine execOp_congr o (fun cs b e => by rw [e] at hnd; exact hnd) fun x hx => ?_
    cases x with
    | tmp t =>
      show (putL ops (valAt ops a) js a0).tmps.getD t undef = a.tmps.getD t undef
      exact putL_at a t js a0 hs.symm (ht t (List.mem_filterMap.2 ⟨.tmp t, by simpa using hx, rfl⟩))
    | _ => rfl
  have hsz : a.tmps.size = (putL ops (valAt ops a) js a0).tmps.size := by rw [putL_size, hs]
  have hdo : dstOf ops i = o.dst := by unfold dstOf; rw [ho]; rfl
  rw [hdo]
  refine wp_same (K1 := fun A' w' => ∃ v, A' = (putL ops (valAt ops a) js a0).put o.dst v ∧ G w w' ∧ F i v w') he hsz hnd ?_ ?_
  · exact h (valAt ops a) w hG (fun j hj => hF j (hjs j hj)) _ (fun v w' g f => ⟨v, rfl, v, rfl, g, f⟩)
  · rintro v w' ⟨v', e, g, f⟩
    exact ⟨v', put_eq e hsz, g, f⟩
/-- An operation under a guard, whose outcome is known. -/
theorem owes_if {i k : Nat} {o : Oper} {want : Bool} (c : Bool) (js : List Nat) (ho : ops[i]? = some o) (hg : o.guard = some (k, want)) (hk : waitsB ops i k = true) (hc : ∀ v w, F k v w → v = .bool c)
    (hsz : ∀ d, dstOf ops k = some d → d < a0.tmps.size) (hkd : (dstOf ops k).isSome = true) (hsee : seesB ops i js = true)
    (hnd : match o.op with | .defer _ => False | .select .. => False | _ => True)
    (yes : c = want → ∀ (vals : Nat → Value) (w : World), G w0 w → (∀ j ∈ js, F j (vals j) w) → ∀ K : Act → World → Prop, (∀ v w', G w w' → F i v w' → K ((putL ops vals js a0).put o.dst v) w') →
      Oper.wp P o (putL ops vals js a0) w K NoQ)
    (no : c ≠ want → ∀ w, G w0 w → G w w ∧ F i undef w) : Owes P ops Q G F a0 w0 i := by
  intro a w hG hd hs hF hR
  have hy : yielded ops a.tmps k = some c := by
    have h1 := hc _ _ (hF k hk)
    unfold valAt at h1
    unfold yielded
    obtain ⟨d, hd'⟩ := Option.isSome_iff_exists.1 hkd
    have hl := hsz d hd'
    unfold dstOf at hd' h1
    rw [hd'] at h1 ⊢
    simp only [Option.bind_some] at h1 ⊢
    have hl' : d < a.tmps.size := by rw [hs]; exact hl
    rw [Array.getD_eq_getD_getElem?, Array.getElem?_eq_getElem hl'] at h1
    rw [Array.getElem?_eq_getElem hl']
    simp only [Option.getD_some] at h1
    rw [h1]
  have hwant : Region.wanted o (yielded ops a.tmps) = (c == want) := by
    unfold Region.wanted
    rw [hg]
    simp only [hy]
    cases c <;> cases want <;> rfl
  by_cases e : c = want
  · have := owes_of (P := P) (ops := ops.setIfInBounds i { o with guard := none }) (Q := Q) (G := G) (F := F) (a0 := a0) (w0 := w0) (i := i) (o := { o with guard := none }) js
    unfold wpOp
    rw [ho]
    simp only [hwant, e, beq_self_eq_true, if_true]
    left
    have hsee' : (js.all (fun j => waitsB ops i j) = true) ∧ ∀ t ∈ (o.op.operands.toList.filterMap fun | .tmp t => some t | _ => none), js.any (fun j => dstOf ops j == some t) = true ∨ (List.range ops.size).all (fun j => dstOf ops j != some t || waitsB ops j i) = true := by
      unfold seesB at hsee
      rw [ho] at hsee
      simp only [Bool.and_eq_true, List.all_eq_true, Bool.or_eq_true] at hsee
      refine ⟨by rw [List.all_eq_true]; exact hsee.1, fun t ht => ?_⟩
      rcases hsee.2 t ht with h | h
      · exact .inl h
      · right; rw [List.all_eq_true]; simpa using h
    have hjs : ∀ j ∈ js, waitsB ops i j = true := List.all_eq_true.1 hsee'.1
    have ht : ∀ t ∈ (o.op.operands.toList.filterMap fun | .tmp t => some t | _ => none), a0.tmps.getD t undef = a.tmps.getD t undef ∨ ∃ j ∈ js, dstOf ops j = some t := by
      intro t ht
      rcases hsee'.2 t ht with h | h
      · right
        rw [List.any_eq_true] at h
        obtain ⟨j, hj, e⟩ := h
        exact ⟨j, hj, by simpa using e⟩
      · left
        refine (hR t fun j hj => ?_).symm
        rw [List.all_eq_true] at h
        have hlt : j < ops.size := by
          rcases Nat.lt_or_ge j ops.size with hl | hl
          · exact hl
          · unfold dstOf at hj; rw [Array.getElem?_eq_none hl] at hj; cases hj
        have := h j (List.mem_range.2 hlt)
        simpa [hj] using this
    have he : execOp (putL ops (valAt ops a) js a0).eval o = execOp a.eval o := by
      refine execOp_congr o (fun cs b e => by rw [e] at hnd; exact hnd) fun x hx => ?_
      cases x with
      | tmp t =>
        show (putL ops (valAt ops a) js a0).tmps.getD t undef = a.tmps.getD t undef
        exact putL_at a t js a0 hs.symm (ht t (List.mem_filterMap.2 ⟨.tmp t, by simpa using hx, rfl⟩))
      | _ => rfl
    have hsz' : a.tmps.size = (putL ops (valAt ops a) js a0).tmps.size := by rw [putL_size, hs]
    have hdo : dstOf ops i = o.dst := by unfold dstOf; rw [ho]; rfl
    rw [hdo]
    refine wp_same (K1 := fun A' w' => ∃ v, A' = (putL ops (valAt ops a) js a0).put o.dst v ∧ G w w' ∧ F i v w') he hsz' hnd ?_ ?_
    · exact yes e (valAt ops a) w hG (fun j hj => hF j (hjs j hj)) _ (fun v w' g f => ⟨v, rfl, v, rfl, g, f⟩)
    · rintro v w' ⟨v', e, g, f⟩
      exact ⟨v', put_eq e hsz', g, f⟩
  · have hdo : dstOf ops i = o.dst := by unfold dstOf; rw [ho]; rfl
    unfold wpOp
    rw [ho]
    have hw : (c == want) = false := by rw [beq_eq_false_iff_ne]; exact e
    simp only [hwant, hw, Bool.false_eq_true, if_false]
    rw [hdo]
    obtain ⟨g, f⟩ := no e w hG
    exact ⟨undef, rfl, g, f⟩
theorem filter_less {p q : Nat → Bool} {i : Nat} : ∀ {l : List Nat}, (∀ x, q x = true → p x = true) → i ∈ l → p i = true → q i = false → (l.filter q).length < (l.filter p).length
  | [], _, h, _, _ => by cases h
  | x :: l, hpq, h, hp, hq => by
    have hle : ∀ l : List Nat, (l.filter q).length ≤ (l.filter p).length := by
      intro l
      induction l with
      | nil => exact Nat.le_refl _
      | cons y l ih =>
        rw [List.filter_cons, List.filter_cons]
        by_cases hy : q y = true
        · rw [if_pos hy, if_pos (hpq y hy)]; simp; exact ih
        · rw [if_neg hy]; split
          · simp; omega
          · exact ih
    rw [List.mem_cons] at h
    rw [List.filter_cons, List.filter_cons]
    rcases h with rfl | h
    · rw [if_neg (by simp [hq]), if_pos hp]
      have := hle l
      simp; omega
    · have ih := filter_less (l := l) hpq h hp hq
      by_cases hx : q x = true
      · rw [if_pos hx, if_pos (hpq x hx)]; simp; exact ih
      · rw [if_neg hx]; split
        · simp; omega
        · exact ih
theorem regB_at {size : Nat} (h : regB ops size = true) {i : Nat} (hi : i < ops.size) : ∃ o d, ops[i]? = some o ∧ o.dst = some d ∧ d < size ∧ (∀ j, j < ops.size → j ≠ i → dstOf ops j ≠ some d) ∧ (∀ e ∈ o.after, Region.binds .any e = true → e.on < i) := by
  unfold regB at h
  rw [List.all_eq_true] at h
  have h1 := h i (List.mem_range.2 hi)
  cases ho : ops[i]? with
  | none => rw [ho] at h1; cases h1
  | some o =>
    rw [ho] at h1
    simp only [Bool.and_eq_true] at h1
    obtain ⟨⟨h1, h2⟩, _⟩ := h1
    cases hd : o.dst with
    | none => rw [hd] at h1; cases h1
    | some d =>
      rw [hd] at h1
      simp only [Bool.and_eq_true, decide_eq_true_eq, List.all_eq_true, List.mem_range, Bool.or_eq_true, beq_iff_eq, bne_iff_ne] at h1
      refine ⟨o, d, rfl, hd, h1.1, fun j hj hne => ?_, fun e he hb => ?_⟩
      · rcases h1.2 j hj with h | h
        · exact absurd h hne
        · exact h
      · have := Array.all_eq_true_iff_forall_mem.1 h2 e he
        simpa [hb] using this
theorem region_facts {id : Nat} (hm : P.follows .mixedOrders = true) (hrefl : G w0 w0.drew) (htrans : ∀ a b c, G a b → G b c → G a c) (hmono : ∀ j, j < ops.size → ∀ v a b, F j v a → G a b → F j v b)
    (hreg : regB ops a0.tmps.size = true) (howes : ∀ i, i < ops.size → Owes P ops Q G F a0 w0 i)
    (fin : ∀ (vals : Nat → Value) (w : World), G w0 w → (∀ j, j < ops.size → F j (vals j) w) → Q .normal (putL ops vals (List.range ops.size) a0) w) :
    (Code.region id ops true).wp P Q a0 w0 := by
  have main : ∀ (fuel : Nat) (listed : Array Bool) (a : Act) (w : World), listed.size = ops.size →
      ((List.range ops.size).filter fun j => !listed.getD j true).length ≤ fuel →
      G w0 w → a.defers = a0.defers → a.tmps.size = a0.tmps.size →
      (∀ j, j < ops.size → listed.getD j true = true → F j (valAt ops a j) w) →
      (∀ t, (∀ j, j < ops.size → listed.getD j true = true → dstOf ops j ≠ some t) → a.tmps.getD t undef = a0.tmps.getD t undef) →
      (∀ j, j < ops.size → listed.getD j true = true → ∀ k, waitsB ops j k = true → listed.getD k false = true) →
      wpAny P .any ops Q fuel listed a w := by
    intro fuel
    -- where nothing may come up all has come up
    have allUp : ∀ (listed : Array Bool), listed.size = ops.size → Region.ready .any ops listed = [] → ∀ j, j < ops.size → listed.getD j true = true := by
      intro listed hsz hr j
      induction j using Nat.strongRecOn with
      | ind j ih =>
        intro hj
        cases hl : listed.getD j true with
        | true => rfl
        | false =>
          exfalso
          obtain ⟨o, d, ho, _, _, _, he⟩ := regB_at hreg hj
          have : j ∈ Region.ready .any ops listed := mem_ready.2 ⟨hl, o, ho, fun e hem hb => by
            have hlt := he e hem hb
            have := ih e.on hlt (by omega)
            rw [Array.getD_eq_getD_getElem?] at this ⊢
            rw [Array.getElem?_eq_getElem (by omega)] at this ⊢
            exact this⟩
          rw [hr] at this
          cases this
    have done : ∀ (listed : Array Bool) (a : Act) (w : World), (∀ j, j < ops.size → listed.getD j true = true) → G w0 w → a.defers = a0.defers → a.tmps.size = a0.tmps.size →
        (∀ j, j < ops.size → listed.getD j true = true → F j (valAt ops a j) w) →
        (∀ t, (∀ j, j < ops.size → listed.getD j true = true → dstOf ops j ≠ some t) → a.tmps.getD t undef = a0.tmps.getD t undef) → Q .normal a w := by
      intro listed a w hall hG hd hs hF hR
      have := fin (valAt ops a) w hG (fun j hj => hF j hj (hall j hj))
      rw [putL_whole a (List.range ops.size) a0 hs.symm hd.symm] at this
      · exact this
      · intro t
        by_cases e : ∃ j, j < ops.size ∧ dstOf ops j = some t
        · obtain ⟨j, hj, hjd⟩ := e
          exact .inr ⟨j, List.mem_range.2 hj, hjd⟩
        · left
          exact (hR t fun j hj _ he => e ⟨j, hj, he⟩).symm
    induction fuel with
    | zero =>
      intro listed a w hsz hcnt hG hd hs hF hR hC
      have hall : ∀ j, j < ops.size → listed.getD j true = true := by
        intro j hj
        cases hl : listed.getD j true with
        | true => rfl
        | false =>
          have : j ∈ (List.range ops.size).filter fun j => !listed.getD j true := List.mem_filter.2 ⟨List.mem_range.2 hj, by simp only [hl]; rfl⟩
          rw [List.eq_nil_of_length_eq_zero (Nat.le_zero.1 hcnt)] at this
          cases this
      refine ⟨?_, done listed a w hall hG hd hs hF hR⟩
      apply List.eq_nil_iff_forall_not_mem.2
      intro j hj
      obtain ⟨h1, o, ho, _⟩ := mem_ready.1 hj
      have hlt : j < ops.size := (Array.getElem?_eq_some_iff.1 ho).1
      rw [hall j hlt] at h1
      cases h1
    | succ fuel ih =>
      intro listed a w hsz hcnt hG hd hs hF hR hC
      refine ⟨fun hr => done listed a w (allUp listed hsz hr) hG hd hs hF hR, fun i hi => ?_⟩
      obtain ⟨hun, o, ho, hall⟩ := mem_ready.1 hi
      have hlt : i < ops.size := (Array.getElem?_eq_some_iff.1 ho).1
      have hlz : i < listed.size := by omega
      have hw : ∀ j, waitsB ops i j = true → j < ops.size ∧ listed.getD j true = true := by
        intro j hj
        obtain ⟨o', ho', e, he, hb, rfl⟩ := waits_some hj
        rw [ho] at ho'
        injection ho' with ho'
        subst ho'
        have h1 := hall e he hb
        rw [Array.getD_eq_getD_getElem?] at h1
        rcases Nat.lt_or_ge e.on listed.size with hl | hl
        · refine ⟨by omega, ?_⟩
          rw [Array.getD_eq_getD_getElem?]
          rw [Array.getElem?_eq_getElem hl] at h1 ⊢
          exact h1
        · rw [Array.getElem?_eq_none hl] at h1; cases h1
      have hstep := howes i hlt a w hG hd hs (fun j hj => hF j (hw j hj).1 (hw j hj).2) (fun t ht => hR t fun j hj hl he => by
        have h1 := hC j hj hl i (ht j he)
        rw [Array.getD_eq_getD_getElem?, Array.getElem?_eq_getElem hlz] at h1 hun
        simp only [Option.getD_some] at h1 hun
        rw [h1] at hun; cases hun)
      refine wpOp_mono ?_ hstep
      rintro a' w' ⟨v, rfl, hg, hf⟩
      have hset : ∀ j b, (listed.setIfInBounds i true).getD j b = if j = i then true else listed.getD j b := by
        intro j b
        rw [Array.getD_eq_getD_getElem?, Array.getD_eq_getD_getElem?, Array.getElem?_setIfInBounds]
        by_cases e : i = j
        · subst e; simp [hlz]
        · rw [if_neg e, if_neg (fun h => e h.symm)]
      obtain ⟨o2, d, ho2, hd2, hdl, hdd, _⟩ := regB_at hreg hlt
      have hdo : dstOf ops i = some d := by unfold dstOf; rw [ho2]; exact hd2
      rw [hdo]
      refine ih (listed.setIfInBounds i true) (a.put (some d) v) w' (by simp [hsz]) ?_ (htrans _ _ _ hG hg) (by exact hd) (by rw [put_size, hs]) ?_ ?_ ?_
      · have := filter_less (p := fun j => !listed.getD j true) (q := fun j => !(listed.setIfInBounds i true).getD j true) (i := i) (l := List.range ops.size) (fun x hx => by
          rw [hset] at hx
          by_cases e : x = i
          · rw [if_pos e] at hx; cases hx
          · rw [if_neg e] at hx; exact hx) (List.mem_range.2 hlt) (by rw [hun]; rfl) (by rw [hset, if_pos rfl]; rfl)
        omega
      · intro j hj hl
        by_cases e : j = i
        · subst e
          unfold valAt
          rw [hdo]
          simp only
          rw [put_same _ _ _ (by rw [hs]; exact hdl)]
          exact hf
        · rw [hset, if_neg e] at hl
          have h1 := hmono j hj _ _ _ (hF j hj hl) hg
          have h2 : valAt ops (a.put (some d) v) j = valAt ops a j := by
            unfold valAt
            have hne := hdd j hj e
            cases hjd : dstOf ops j with
            | none => rfl
            | some dj =>
              simp only
              exact put_other _ _ _ _ (fun h => hne (by rw [hjd]; exact h.symm))
          rw [h2]
          exact h1
      · intro t ht
        have h1 : some d ≠ some t := fun h => ht i hlt (by rw [hset, if_pos rfl]) (by rw [hdo]; exact h)
        rw [put_other _ _ _ _ h1]
        exact hR t fun j hj hl => ht j hj (by rw [hset]; split <;> simp_all)
      · intro j hj hl k hk
        rw [hset]
        by_cases e : k = i
        · rw [if_pos e]
        · rw [if_neg e]
          by_cases e2 : j = i
          · subst e2
            have h1 := (hw k hk)
            have h2 : k < listed.size := by omega
            have h3 := h1.2
            rw [Array.getD_eq_getD_getElem?, Array.getElem?_eq_getElem h2] at h3 ⊢
            exact h3
          · rw [hset, if_neg e2] at hl
            exact hC j hj hl k hk
  refine wp_region_any hm ?_
  refine main ops.size (Array.replicate ops.size false) a0 w0.drew (by simp) ?_ hrefl rfl rfl ?_ ?_ ?_
  · exact Nat.le_trans (List.length_filter_le _ _) (by simp)
  · intro j hj hl
    rw [Array.getD_eq_getD_getElem?, Array.getElem?_eq_getElem (by simpa using hj)] at hl
    simp at hl
  · intro t _; rfl
  · intro j hj hl
    rw [Array.getD_eq_getD_getElem?, Array.getElem?_eq_getElem (by simpa using hj)] at hl
    simp at hl
end
end Go.Proofs.Ytdfhdgdhhgabbaa
