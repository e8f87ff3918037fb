/- Texts joined: Reg Num Mem Bel RegV BitsA BitsB MmA. -/
import Derived.Orders
import Derived.Below
import Derived.Lib.Hide
import Derived.WalkKit
import Derived.WalkLawsBesides
import Derived.WalkSpells
import Derived.Laws.BitsAllLaws
import Derived.Laws.Bits64
import Derived.Deep.QuietTactic
import Derived.BigQuiet
import Derived.Laws.CopyOwn
import Derived.Laws.OwnMore
import Derived.Laws.MakeOwn
import Derived.OwnWalk
import Derived.Deep.AppendLies
import Derived.Maps.AppendAt
import Derived.Laws.IdiomStrings
import Derived.Test.YtfodefgihicafaaDoorChecked
import Derived.KernelRfl
import Derived.Outline
import Derived.LoopTactic
/- A region that draws its order, by a fact for each of its operations: each is shown once, in whatever world its forerunners leave. No conditions. -/
namespace Go.Proofs.YtfodefgihicafaaDoor
set_option linter.unusedVariables false
set_option linter.unusedSimpArgs false
open Go.RowKit
section
variable {P : Program} {ops : Array Oper} {Q : Exit → Act → World → Prop} {G : World → World → Prop} {F : Nat → Value → World → Prop} {a0 : Act} {w0 : World}

def dstOf (ops : Array Oper) (j : Nat) : Option Tmp := (ops[j]?).bind (·.dst)
/-- Does operation i wait for operation j, by an edge of its own? -/
def waitsB (ops : Array Oper) (i j : Nat) : Bool := match ops[i]? with
  | some o => o.after.any fun e => Region.binds .any e && e.on == j
  | none => false
/-- The checks on a region, all by reckoning: each operation has a slot of its own, below size; it waits for elder ones alone; none defers. -/
def regB (ops : Array Oper) (size : Nat) : Bool :=
  (List.range ops.size).all fun i => match ops[i]? with
    | none => false
    | some o =>
      (match o.dst with
       | none => false
       | some d => decide (d < size) && (List.range ops.size).all fun j => j == i || dstOf ops j != some d) &&
      (o.after.all fun e => !Region.binds .any e || decide (e.on < i)) &&
      (match o.op with | .defer _ => false | .select .. => false | _ => true)
/-- Operation i's operands are what the operations js leave, which it waits for, or slots that no operation writes ahead of it. -/
def seesB (ops : Array Oper) (i : Nat) (js : List Nat) : Bool := match ops[i]? with
  | none => false
  | some o => js.all (fun j => waitsB ops i j) && (o.op.operands.toList.filterMap fun | .tmp t => some t | _ => none).all fun t =>
      js.any (fun j => dstOf ops j == some t) || (List.range ops.size).all fun j => dstOf ops j != some t || waitsB ops j i
def putL (ops : Array Oper) (vals : Nat → Value) : List Nat → Act → Act
  | [], a => a
  | j :: js, a => putL ops vals js (a.put (dstOf ops j) (vals j))
def valAt (ops : Array Oper) (a : Act) (j : Nat) : Value := match dstOf ops j with
  | some d => a.tmps.getD d undef
  | none => undef
def NoQ : Exit → Act → World → Prop := fun _ _ _ => False

theorem put_size (a : Act) (d : Option Tmp) (v : Value) : (a.put d v).tmps.size = a.tmps.size := by
  cases d <;> simp [Act.put]
theorem put_same (a : Act) (d : Tmp) (v : Value) (h : d < a.tmps.size) : (a.put (some d) v).tmps.getD d undef = v := by
  simp [Act.put, h]
theorem put_other (a : Act) (d : Option Tmp) (v : Value) (t : Tmp) (h : d ≠ some t) : (a.put d v).tmps.getD t undef = a.tmps.getD t undef := by
  cases d with
  | none => rfl
  | some d =>
    have : d ≠ t := fun e => h (by rw [e])
    simp [Act.put, Array.getElem?_setIfInBounds_ne this]
theorem getD_out (a : Act) (t : Nat) (h : a.tmps.size ≤ t) : a.tmps.getD t undef = undef := by
  rw [Array.getD_eq_getD_getElem?, Array.getElem?_eq_none h]; rfl
theorem put_to (a b : Act) (t : Nat) (hs : b.tmps.size = a.tmps.size) : (b.put (some t) (a.tmps.getD t undef)).tmps.getD t undef = a.tmps.getD t undef := by
  rcases Nat.lt_or_ge t b.tmps.size with hl | hl
  · rw [put_same _ _ _ hl]
  · rw [getD_out _ _ (by rw [put_size]; exact hl), getD_out a t (by rw [← hs]; exact hl)]
theorem putL_size (vals : Nat → Value) (js : List Nat) : ∀ a : Act, (putL ops vals js a).tmps.size = a.tmps.size := by
  induction js with
  | nil => intro a; rfl
  | cons j js ih => intro a; unfold putL; rw [ih, put_size]
theorem putL_defers (vals : Nat → Value) (js : List Nat) : ∀ a : Act, (putL ops vals js a).defers = a.defers := by
  induction js with
  | nil => intro a; rfl
  | cons j js ih => intro a; unfold putL; rw [ih]; cases dstOf ops j <;> rfl
theorem putL_whole (a : Act) (js : List Nat) : ∀ b : Act, b.tmps.size = a.tmps.size → b.defers = a.defers →
    (∀ t, b.tmps.getD t undef = a.tmps.getD t undef ∨ ∃ j ∈ js, dstOf ops j = some t) → putL ops (valAt ops a) js b = a := by
  induction js with
  | nil =>
    intro b hs hd h
    obtain ⟨bt, bd⟩ := b
    obtain ⟨at_, ad⟩ := a
    simp only at hs hd
    subst hd
    have : bt = at_ := by
      apply Array.ext hs
      intro i h1 h2
      have := h i
      simp at this
      rw [Array.getElem?_eq_getElem h1, Array.getElem?_eq_getElem h2] at this
      simpa using this
    rw [this]; rfl
  | cons j js ih =>
    intro b hs hd h
    unfold putL
    apply ih
    · rw [put_size, hs]
    · cases dstOf ops j <;> exact hd
    · intro t
      by_cases e : dstOf ops j = some t
      · left
        unfold valAt
        rw [e]
        simp only
        exact put_to a b t hs
      · rw [put_other _ _ _ _ e]
        rcases h t with h | ⟨k, hk, hkd⟩
        · exact .inl h
        · rw [List.mem_cons] at hk
          rcases hk with rfl | hk
          · exact absurd hkd e
          · exact .inr ⟨k, hk, hkd⟩
theorem putL_at (a : Act) (t : Tmp) (js : List Nat) : ∀ b : Act, b.tmps.size = a.tmps.size → (b.tmps.getD t undef = a.tmps.getD t undef ∨ ∃ j ∈ js, dstOf ops j = some t) →
    (putL ops (valAt ops a) js b).tmps.getD t undef = a.tmps.getD t undef := by
  induction js with
  | nil =>
    intro b hs h
    rcases h with h | ⟨j, hj, _⟩
    · exact h
    · cases hj
  | cons j js ih =>
    intro b hs h
    unfold putL
    apply ih _ (by rw [put_size, hs])
    by_cases e : dstOf ops j = some t
    · left
      unfold valAt
      rw [e]
      simp only
      exact put_to a b t hs
    · rw [put_other _ _ _ _ e]
      rcases h with h | ⟨k, hk, hkd⟩
      · exact .inl h
      · rw [List.mem_cons] at hk
        rcases hk with rfl | hk
        · exact absurd hkd e
        · exact .inr ⟨k, hk, hkd⟩

/-- What operation i owes, at the very state: its fact, of whatever it leaves. -/
def Owes (P : Program) (ops : Array Oper) (Q : Exit → Act → World → Prop) (G : World → World → Prop) (F : Nat → Value → World → Prop) (a0 : Act) (w0 : World) (i : Nat) : Prop :=
  ∀ (a : Act) (w : World), G w0 w → a.defers = a0.defers → a.tmps.size = a0.tmps.size →
    (∀ j, waitsB ops i j = true → F j (valAt ops a j) w) →
    (∀ t, (∀ j, dstOf ops j = some t → waitsB ops j i = true) → a.tmps.getD t undef = a0.tmps.getD t undef) →
    wpOp P ops Q i (fun a' w' => ∃ v, a' = a.put (dstOf ops i) v ∧ G w w' ∧ F i v w') a w
theorem put_eq {A a : Act} {d : Option Tmp} {v v' : Value} (h : A.put d v = A.put d v') (hs : a.tmps.size = A.tmps.size) : a.put d v = a.put d v' := by
  cases d with
  | none => rfl
  | some d =>
    rcases Nat.lt_or_ge d A.tmps.size with hl | hl
    · have h1 := put_same A d v hl
      rw [h, put_same A d v' hl] at h1
      rw [h1]
    · have e : ∀ u, a.put (some d) u = a := fun u => by
        simp only [Act.put]
        rw [Array.setIfInBounds_eq_of_size_le (by rw [hs]; exact hl)]
      rw [e, e]
theorem wp_same {o : Oper} {A a : Act} {w : World} {K1 K2 : Act → World → Prop} (he : execOp A.eval o = execOp a.eval o) (hs : a.tmps.size = A.tmps.size)
    (hnd : match o.op with | .defer _ => False | .select .. => False | _ => True)
    (h : Oper.wp P o A w (fun a' w' => ∃ v, a' = A.put o.dst v ∧ K1 (A.put o.dst v) w') NoQ) (hk : ∀ v w', K1 (A.put o.dst v) w' → K2 (a.put o.dst v) w') :
    Oper.wp P o a w K2 Q := by
  have key : ∀ v w', (∃ v', A.put o.dst v = A.put o.dst v' ∧ K1 (A.put o.dst v') w') → K2 (a.put o.dst v) w' := by
    rintro v w' ⟨v', e, k⟩
    rw [put_eq e hs]
    exact hk _ _ k
  unfold Oper.wp at *
  rw [← he]
  generalize (execOp A.eval o).run P w = r at *
  cases r with
  | ok n w' =>
    cases n <;> simp only [Oper.upon] at h ⊢
    case value u => exact key _ _ h
    case skip => exact key _ _ h
    case defer d =>
      obtain ⟨v, e, _⟩ := h
      exfalso
      have := congrArg Act.defers e
      cases hd : o.dst <;> simp [Act.put, hd] at this
    case enter f args =>
      refine Calls.mono h fun e w'' he => ?_
      cases e with
      | returned u => exact key _ _ he
      | panicked c => exact he.elim
      | outgrown => obtain ⟨_, _, hf⟩ := he; exact hf.elim
    case row row args => exact Rows.mono h fun u w'' he => key _ _ he
  | halt x w' =>
    cases x <;> simp only [Oper.upon] at h ⊢
    case panic u => exact h.elim
theorem waits_some {i j : Nat} (h : waitsB ops i j = true) : ∃ o, ops[i]? = some o ∧ ∃ e ∈ o.after, Region.binds .any e = true ∧ e.on = j := by
  unfold waitsB at h
  cases ho : ops[i]? with
  | none => rw [ho] at h; cases h
  | some o =>
    rw [ho] at h
    simp only at h
    obtain ⟨e, he, hb⟩ := Array.any_eq_true'.1 h
    simp only [Bool.and_eq_true, beq_iff_eq] at hb
    exact ⟨o, rfl, e, he, hb.1, hb.2⟩
/-- An operation that runs whatever comes: by the operations js that it waits for. -/
theorem owes_of {i : Nat} {o : Oper} (js : List Nat) (ho : ops[i]? = some o) (hg : o.guard = none) (hsee : seesB ops i js = true)
    (hnd : match o.op with | .defer _ => False | .select .. => False | _ => True)
    (h : ∀ (vals : Nat → Value) (w : World), G w0 w → (∀ j ∈ js, F j (vals j) w) → ∀ K : Act → World → Prop, (∀ v w', G w w' → F i v w' → K ((putL ops vals js a0).put o.dst v) w') →
      Oper.wp P o (putL ops vals js a0) w K NoQ) : Owes P ops Q G F a0 w0 i := by
  intro a w hG hd hs hF hR
  unfold wpOp
  rw [ho]
  simp only [Region.wanted, hg, if_true]
  left
  have hsee' : (js.all (fun j => waitsB ops i j) = true) ∧ ∀ t ∈ (o.op.operands.toList.filterMap fun | .tmp t => some t | _ => none), js.any (fun j => dstOf ops j == some t) = true ∨ (List.range ops.size).all (fun j => dstOf ops j != some t || waitsB ops j i) = true := by
    unfold seesB at hsee
    rw [ho] at hsee
    simp only [Bool.and_eq_true, List.all_eq_true, Bool.or_eq_true] at hsee
    refine ⟨by rw [List.all_eq_true]; exact hsee.1, fun t ht => ?_⟩
    rcases hsee.2 t ht with h | h
    · exact .inl h
    · right; rw [List.all_eq_true]; simpa using h
  have hjs : ∀ j ∈ js, waitsB ops i j = true := List.all_eq_true.1 hsee'.1
  have ht : ∀ t ∈ (o.op.operands.toList.filterMap fun | .tmp t => some t | _ => none), a0.tmps.getD t undef = a.tmps.getD t undef ∨ ∃ j ∈ js, dstOf ops j = some t := by
    intro t ht
    rcases hsee'.2 t ht with h | h
    · right
      rw [List.any_eq_true] at h
      obtain ⟨j, hj, e⟩ := h
      exact ⟨j, hj, by simpa using e⟩
    · left
      refine (hR t fun j hj => ?_).symm
      rw [List.all_eq_true] at h
      have hlt : j < ops.size := by
        rcases Nat.lt_or_ge j ops.size with hl | hl
        · exact hl
        · unfold dstOf at hj; rw [Array.getElem?_eq_none hl] at hj; cases hj
      have := h j (List.mem_range.2 hlt)
      simpa [hj] using this
  have he : execOp (putL ops (valAt ops a) js a0).eval o = execOp a.eval o := by
    refine execOp_congr o (fun cs b e => by rw [e] at hnd; exact hnd) fun x hx => ?_
    cases x with
    | tmp t =>
      show (putL ops (valAt ops a) js a0).tmps.getD t undef = a.tmps.getD t undef
      exact putL_at a t js a0 hs.symm (ht t (List.mem_filterMap.2 ⟨.tmp t, by simpa using hx, rfl⟩))
    | _ => rfl
  have hsz : a.tmps.size = (putL ops (valAt ops a) js a0).tmps.size := by rw [putL_size, hs]
  have hdo : dstOf ops i = o.dst := by unfold dstOf; rw [ho]; rfl
  rw [hdo]
  refine wp_same (K1 := fun A' w' => ∃ v, A' = (putL ops (valAt ops a) js a0).put o.dst v ∧ G w w' ∧ F i v w') he hsz hnd ?_ ?_
  · exact h (valAt ops a) w hG (fun j hj => hF j (hjs j hj)) _ (fun v w' g f => ⟨v, rfl, v, rfl, g, f⟩)
  · rintro v w' ⟨v', e, g, f⟩
    exact ⟨v', put_eq e hsz, g, f⟩
/-- An operation under a guard, whose outcome is known. -/
theorem owes_if {i k : Nat} {o : Oper} {want : Bool} (c : Bool) (js : List Nat) (ho : ops[i]? = some o) (hg : o.guard = some (k, want)) (hk : waitsB ops i k = true) (hc : ∀ v w, F k v w → v = .bool c)
    (hsz : ∀ d, dstOf ops k = some d → d < a0.tmps.size) (hkd : (dstOf ops k).isSome = true) (hsee : seesB ops i js = true)
    (hnd : match o.op with | .defer _ => False | .select .. => False | _ => True)
    (yes : c = want → ∀ (vals : Nat → Value) (w : World), G w0 w → (∀ j ∈ js, F j (vals j) w) → ∀ K : Act → World → Prop, (∀ v w', G w w' → F i v w' → K ((putL ops vals js a0).put o.dst v) w') →
      Oper.wp P o (putL ops vals js a0) w K NoQ)
    (no : c ≠ want → ∀ w, G w0 w → G w w ∧ F i undef w) : Owes P ops Q G F a0 w0 i := by
  intro a w hG hd hs hF hR
  have hy : yielded ops a.tmps k = some c := by
    have h1 := hc _ _ (hF k hk)
    unfold valAt at h1
    unfold yielded
    obtain ⟨d, hd'⟩ := Option.isSome_iff_exists.1 hkd
    have hl := hsz d hd'
    unfold dstOf at hd' h1
    rw [hd'] at h1 ⊢
    simp only [Option.bind_some] at h1 ⊢
    have hl' : d < a.tmps.size := by rw [hs]; exact hl
    rw [Array.getD_eq_getD_getElem?, Array.getElem?_eq_getElem hl'] at h1
    rw [Array.getElem?_eq_getElem hl']
    simp only [Option.getD_some] at h1
    rw [h1]
  have hwant : Region.wanted o (yielded ops a.tmps) = (c == want) := by
    unfold Region.wanted
    rw [hg]
    simp only [hy]
    cases c <;> cases want <;> rfl
  by_cases e : c = want
  · have := owes_of (P := P) (ops := ops.setIfInBounds i { o with guard := none }) (Q := Q) (G := G) (F := F) (a0 := a0) (w0 := w0) (i := i) (o := { o with guard := none }) js
    unfold wpOp
    rw [ho]
    simp only [hwant, e, beq_self_eq_true, if_true]
    left
    have hsee' : (js.all (fun j => waitsB ops i j) = true) ∧ ∀ t ∈ (o.op.operands.toList.filterMap fun | .tmp t => some t | _ => none), js.any (fun j => dstOf ops j == some t) = true ∨ (List.range ops.size).all (fun j => dstOf ops j != some t || waitsB ops j i) = true := by
      unfold seesB at hsee
      rw [ho] at hsee
      simp only [Bool.and_eq_true, List.all_eq_true, Bool.or_eq_true] at hsee
      refine ⟨by rw [List.all_eq_true]; exact hsee.1, fun t ht => ?_⟩
      rcases hsee.2 t ht with h | h
      · exact .inl h
      · right; rw [List.all_eq_true]; simpa using h
    have hjs : ∀ j ∈ js, waitsB ops i j = true := List.all_eq_true.1 hsee'.1
    have ht : ∀ t ∈ (o.op.operands.toList.filterMap fun | .tmp t => some t | _ => none), a0.tmps.getD t undef = a.tmps.getD t undef ∨ ∃ j ∈ js, dstOf ops j = some t := by
      intro t ht
      rcases hsee'.2 t ht with h | h
      · right
        rw [List.any_eq_true] at h
        obtain ⟨j, hj, e⟩ := h
        exact ⟨j, hj, by simpa using e⟩
      · left
        refine (hR t fun j hj => ?_).symm
        rw [List.all_eq_true] at h
        have hlt : j < ops.size := by
          rcases Nat.lt_or_ge j ops.size with hl | hl
          · exact hl
          · unfold dstOf at hj; rw [Array.getElem?_eq_none hl] at hj; cases hj
        have := h j (List.mem_range.2 hlt)
        simpa [hj] using this
    have he : execOp (putL ops (valAt ops a) js a0).eval o = execOp a.eval o := by
      refine execOp_congr o (fun cs b e => by rw [e] at hnd; exact hnd) fun x hx => ?_
      cases x with
      | tmp t =>
        show (putL ops (valAt ops a) js a0).tmps.getD t undef = a.tmps.getD t undef
        exact putL_at a t js a0 hs.symm (ht t (List.mem_filterMap.2 ⟨.tmp t, by simpa using hx, rfl⟩))
      | _ => rfl
    have hsz' : a.tmps.size = (putL ops (valAt ops a) js a0).tmps.size := by rw [putL_size, hs]
    have hdo : dstOf ops i = o.dst := by unfold dstOf; rw [ho]; rfl
    rw [hdo]
    refine wp_same (K1 := fun A' w' => ∃ v, A' = (putL ops (valAt ops a) js a0).put o.dst v ∧ G w w' ∧ F i v w') he hsz' hnd ?_ ?_
    · exact yes e (valAt ops a) w hG (fun j hj => hF j (hjs j hj)) _ (fun v w' g f => ⟨v, rfl, v, rfl, g, f⟩)
    · rintro v w' ⟨v', e, g, f⟩
      exact ⟨v', put_eq e hsz', g, f⟩
  · have hdo : dstOf ops i = o.dst := by unfold dstOf; rw [ho]; rfl
    unfold wpOp
    rw [ho]
    have hw : (c == want) = false := by rw [beq_eq_false_iff_ne]; exact e
    simp only [hwant, hw, Bool.false_eq_true, if_false]
    rw [hdo]
    obtain ⟨g, f⟩ := no e w hG
    exact ⟨undef, rfl, g, f⟩
theorem filter_less {p q : Nat → Bool} {i : Nat} : ∀ {l : List Nat}, (∀ x, q x = true → p x = true) → i ∈ l → p i = true → q i = false → (l.filter q).length < (l.filter p).length
  | [], _, h, _, _ => by cases h
  | x :: l, hpq, h, hp, hq => by
    have hle : ∀ l : List Nat, (l.filter q).length ≤ (l.filter p).length := by
      intro l
      induction l with
      | nil => exact Nat.le_refl _
      | cons y l ih =>
        rw [List.filter_cons, List.filter_cons]
        by_cases hy : q y = true
        · rw [if_pos hy, if_pos (hpq y hy)]; simp; exact ih
        · rw [if_neg hy]; split
          · simp; omega
          · exact ih
    rw [List.mem_cons] at h
    rw [List.filter_cons, List.filter_cons]
    rcases h with rfl | h
    · rw [if_neg (by simp [hq]), if_pos hp]
      have := hle l
      simp; omega
    · have ih := filter_less (l := l) hpq h hp hq
      by_cases hx : q x = true
      · rw [if_pos hx, if_pos (hpq x hx)]; simp; exact ih
      · rw [if_neg hx]; split
        · simp; omega
        · exact ih
theorem regB_at {size : Nat} (h : regB ops size = true) {i : Nat} (hi : i < ops.size) : ∃ o d, ops[i]? = some o ∧ o.dst = some d ∧ d < size ∧ (∀ j, j < ops.size → j ≠ i → dstOf ops j ≠ some d) ∧ (∀ e ∈ o.after, Region.binds .any e = true → e.on < i) := by
  unfold regB at h
  rw [List.all_eq_true] at h
  have h1 := h i (List.mem_range.2 hi)
  cases ho : ops[i]? with
  | none => rw [ho] at h1; cases h1
  | some o =>
    rw [ho] at h1
    simp only [Bool.and_eq_true] at h1
    obtain ⟨⟨h1, h2⟩, _⟩ := h1
    cases hd : o.dst with
    | none => rw [hd] at h1; cases h1
    | some d =>
      rw [hd] at h1
      simp only [Bool.and_eq_true, decide_eq_true_eq, List.all_eq_true, List.mem_range, Bool.or_eq_true, beq_iff_eq, bne_iff_ne] at h1
      refine ⟨o, d, rfl, hd, h1.1, fun j hj hne => ?_, fun e he hb => ?_⟩
      · rcases h1.2 j hj with h | h
        · exact absurd h hne
        · exact h
      · have := Array.all_eq_true_iff_forall_mem.1 h2 e he
        simpa [hb] using this
theorem region_facts {id : Nat} (hm : P.follows .mixedOrders = true) (hrefl : G w0 w0.drew) (htrans : ∀ a b c, G a b → G b c → G a c) (hmono : ∀ j, j < ops.size → ∀ v a b, F j v a → G a b → F j v b)
    (hreg : regB ops a0.tmps.size = true) (howes : ∀ i, i < ops.size → Owes P ops Q G F a0 w0 i)
    (fin : ∀ (vals : Nat → Value) (w : World), G w0 w → (∀ j, j < ops.size → F j (vals j) w) → Q .normal (putL ops vals (List.range ops.size) a0) w) :
    (Code.region id ops true).wp P Q a0 w0 := by
  have main : ∀ (fuel : Nat) (listed : Array Bool) (a : Act) (w : World), listed.size = ops.size →
      ((List.range ops.size).filter fun j => !listed.getD j true).length ≤ fuel →
      G w0 w → a.defers = a0.defers → a.tmps.size = a0.tmps.size →
      (∀ j, j < ops.size → listed.getD j true = true → F j (valAt ops a j) w) →
      (∀ t, (∀ j, j < ops.size → listed.getD j true = true → dstOf ops j ≠ some t) → a.tmps.getD t undef = a0.tmps.getD t undef) →
      (∀ j, j < ops.size → listed.getD j true = true → ∀ k, waitsB ops j k = true → listed.getD k false = true) →
      wpAny P .any ops Q fuel listed a w := by
    intro fuel
    -- where nothing may come up all has come up
    have allUp : ∀ (listed : Array Bool), listed.size = ops.size → Region.ready .any ops listed = [] → ∀ j, j < ops.size → listed.getD j true = true := by
      intro listed hsz hr j
      induction j using Nat.strongRecOn with
      | ind j ih =>
        intro hj
        cases hl : listed.getD j true with
        | true => rfl
        | false =>
          exfalso
          obtain ⟨o, d, ho, _, _, _, he⟩ := regB_at hreg hj
          have : j ∈ Region.ready .any ops listed := mem_ready.2 ⟨hl, o, ho, fun e hem hb => by
            have hlt := he e hem hb
            have := ih e.on hlt (by omega)
            rw [Array.getD_eq_getD_getElem?] at this ⊢
            rw [Array.getElem?_eq_getElem (by omega)] at this ⊢
            exact this⟩
          rw [hr] at this
          cases this
    have done : ∀ (listed : Array Bool) (a : Act) (w : World), (∀ j, j < ops.size → listed.getD j true = true) → G w0 w → a.defers = a0.defers → a.tmps.size = a0.tmps.size →
        (∀ j, j < ops.size → listed.getD j true = true → F j (valAt ops a j) w) →
        (∀ t, (∀ j, j < ops.size → listed.getD j true = true → dstOf ops j ≠ some t) → a.tmps.getD t undef = a0.tmps.getD t undef) → Q .normal a w := by
      intro listed a w hall hG hd hs hF hR
      have := fin (valAt ops a) w hG (fun j hj => hF j hj (hall j hj))
      rw [putL_whole a (List.range ops.size) a0 hs.symm hd.symm] at this
      · exact this
      · intro t
        by_cases e : ∃ j, j < ops.size ∧ dstOf ops j = some t
        · obtain ⟨j, hj, hjd⟩ := e
          exact .inr ⟨j, List.mem_range.2 hj, hjd⟩
        · left
          exact (hR t fun j hj _ he => e ⟨j, hj, he⟩).symm
    induction fuel with
    | zero =>
      intro listed a w hsz hcnt hG hd hs hF hR hC
      have hall : ∀ j, j < ops.size → listed.getD j true = true := by
        intro j hj
        cases hl : listed.getD j true with
        | true => rfl
        | false =>
          have : j ∈ (List.range ops.size).filter fun j => !listed.getD j true := List.mem_filter.2 ⟨List.mem_range.2 hj, by simp only [hl]; rfl⟩
          rw [List.eq_nil_of_length_eq_zero (Nat.le_zero.1 hcnt)] at this
          cases this
      refine ⟨?_, done listed a w hall hG hd hs hF hR⟩
      apply List.eq_nil_iff_forall_not_mem.2
      intro j hj
      obtain ⟨h1, o, ho, _⟩ := mem_ready.1 hj
      have hlt : j < ops.size := (Array.getElem?_eq_some_iff.1 ho).1
      rw [hall j hlt] at h1
      cases h1
    | succ fuel ih =>
      intro listed a w hsz hcnt hG hd hs hF hR hC
      refine ⟨fun hr => done listed a w (allUp listed hsz hr) hG hd hs hF hR, fun i hi => ?_⟩
      obtain ⟨hun, o, ho, hall⟩ := mem_ready.1 hi
      have hlt : i < ops.size := (Array.getElem?_eq_some_iff.1 ho).1
      have hlz : i < listed.size := by omega
      have hw : ∀ j, waitsB ops i j = true → j < ops.size ∧ listed.getD j true = true := by
        intro j hj
        obtain ⟨o', ho', e, he, hb, rfl⟩ := waits_some hj
        rw [ho] at ho'
        injection ho' with ho'
        subst ho'
        have h1 := hall e he hb
        rw [Array.getD_eq_getD_getElem?] at h1
        rcases Nat.lt_or_ge e.on listed.size with hl | hl
        · refine ⟨by omega, ?_⟩
          rw [Array.getD_eq_getD_getElem?]
          rw [Array.getElem?_eq_getElem hl] at h1 ⊢
          exact h1
        · rw [Array.getElem?_eq_none hl] at h1; cases h1
      have hstep := howes i hlt a w hG hd hs (fun j hj => hF j (hw j hj).1 (hw j hj).2) (fun t ht => hR t fun j hj hl he => by
        have h1 := hC j hj hl i (ht j he)
        rw [Array.getD_eq_getD_getElem?, Array.getElem?_eq_getElem hlz] at h1 hun
        simp only [Option.getD_some] at h1 hun
        rw [h1] at hun; cases hun)
      refine wpOp_mono ?_ hstep
      rintro a' w' ⟨v, rfl, hg, hf⟩
      have hset : ∀ j b, (listed.setIfInBounds i true).getD j b = if j = i then true else listed.getD j b := by
        intro j b
        rw [Array.getD_eq_getD_getElem?, Array.getD_eq_getD_getElem?, Array.getElem?_setIfInBounds]
        by_cases e : i = j
        · subst e; simp [hlz]
        · rw [if_neg e, if_neg (fun h => e h.symm)]
      obtain ⟨o2, d, ho2, hd2, hdl, hdd, _⟩ := regB_at hreg hlt
      have hdo : dstOf ops i = some d := by unfold dstOf; rw [ho2]; exact hd2
      rw [hdo]
      refine ih (listed.setIfInBounds i true) (a.put (some d) v) w' (by simp [hsz]) ?_ (htrans _ _ _ hG hg) (by exact hd) (by rw [put_size, hs]) ?_ ?_ ?_
      · have := filter_less (p := fun j => !listed.getD j true) (q := fun j => !(listed.setIfInBounds i true).getD j true) (i := i) (l := List.range ops.size) (fun x hx => by
          rw [hset] at hx
          by_cases e : x = i
          · rw [if_pos e] at hx; cases hx
          · rw [if_neg e] at hx; exact hx) (List.mem_range.2 hlt) (by rw [hun]; rfl) (by rw [hset, if_pos rfl]; rfl)
        omega
      · intro j hj hl
        by_cases e : j = i
        · subst e
          unfold valAt
          rw [hdo]
          simp only
          rw [put_same _ _ _ (by rw [hs]; exact hdl)]
          exact hf
        · rw [hset, if_neg e] at hl
          have h1 := hmono j hj _ _ _ (hF j hj hl) hg
          have h2 : valAt ops (a.put (some d) v) j = valAt ops a j := by
            unfold valAt
            have hne := hdd j hj e
            cases hjd : dstOf ops j with
            | none => rfl
            | some dj =>
              simp only
              exact put_other _ _ _ _ (fun h => hne (by rw [hjd]; exact h.symm))
          rw [h2]
          exact h1
      · intro t ht
        have h1 : some d ≠ some t := fun h => ht i hlt (by rw [hset, if_pos rfl]) (by rw [hdo]; exact h)
        rw [put_other _ _ _ _ h1]
        exact hR t fun j hj hl => ht j hj (by rw [hset]; split <;> simp_all)
      · intro j hj hl k hk
        rw [hset]
        by_cases e : k = i
        · rw [if_pos e]
        · rw [if_neg e]
          by_cases e2 : j = i
          · subst e2
            have h1 := (hw k hk)
            have h2 : k < listed.size := by omega
            have h3 := h1.2
            rw [Array.getD_eq_getD_getElem?, Array.getElem?_eq_getElem h2] at h3 ⊢
            exact h3
          · rw [hset, if_neg e2] at hl
            exact hC j hj hl k hk
  refine wp_region_any hm ?_
  refine main ops.size (Array.replicate ops.size false) a0 w0.drew (by simp) ?_ hrefl rfl rfl ?_ ?_ ?_
  · exact Nat.le_trans (List.length_filter_le _ _) (by simp)
  · intro j hj hl
    rw [Array.getD_eq_getD_getElem?, Array.getElem?_eq_getElem (by simpa using hj)] at hl
    simp at hl
  · intro t _; rfl
  · intro j hj hl
    rw [Array.getD_eq_getD_getElem?, Array.getElem?_eq_getElem (by simpa using hj)] at hl
    simp at hl
end
end Go.Proofs.YtfodefgihicafaaDoor
/- Numbers of fixed width behind one name each: a uint64 is 'U64 x' with x a BitVec 64, and so on; laws that bring what the walk reckons back under these names. No conditions. -/
namespace Go.Proofs.YtfodefgihicafaaDoor
set_option linter.unusedVariables false
set_option linter.unusedSimpArgs false
open Go.RowKit

def U64 (x : BitVec 64) : Int := x.toNat
def U32 (x : BitVec 32) : Int := x.toNat
def U8 (x : BitVec 8) : Int := x.toNat

theorem U64_lo (x : BitVec 64) : 0 ≤ U64 x := Int.natCast_nonneg _
theorem U32_lo (x : BitVec 32) : 0 ≤ U32 x := Int.natCast_nonneg _
theorem U8_lo (x : BitVec 8) : 0 ≤ U8 x := Int.natCast_nonneg _
theorem U64_hi (x : BitVec 64) : U64 x < 2 ^ 64 := by have := x.isLt; unfold U64; omega
theorem U32_hi (x : BitVec 32) : U32 x < 2 ^ 32 := by have := x.isLt; unfold U32; omega
theorem U8_hi (x : BitVec 8) : U8 x < 256 := by have := x.isLt; unfold U8; omega
theorem U64_inj {x y : BitVec 64} (h : U64 x = U64 y) : x = y := by unfold U64 at h; exact BitVec.eq_of_toNat_eq (by omega)
theorem U32_inj {x y : BitVec 32} (h : U32 x = U32 y) : x = y := by unfold U32 at h; exact BitVec.eq_of_toNat_eq (by omega)
theorem U8_inj {x y : BitVec 8} (h : U8 x = U8 y) : x = y := by unfold U8 at h; exact BitVec.eq_of_toNat_eq (by omega)

theorem U64_of {v : Int} (h : 0 ≤ v) (h2 : v < 2 ^ 64) : v = U64 (BitVec.ofInt 64 v) := by
  unfold U64; rw [BitVec.toNat_ofInt]; omega
theorem U32_of {v : Int} (h : 0 ≤ v) (h2 : v < 2 ^ 32) : v = U32 (BitVec.ofInt 32 v) := by
  unfold U32; rw [BitVec.toNat_ofInt]; omega
theorem U8_of {v : Int} (h : 0 ≤ v) (h2 : v < 2 ^ 8) : v = U8 (BitVec.ofInt 8 v) := by
  unfold U8; rw [BitVec.toNat_ofInt]; omega

theorem wrapu64 (v : Int) : IntKind.u64.wrap v = U64 (BitVec.ofInt 64 v) := by
  unfold U64; rw [BitVec.toNat_ofInt]; simp [IntKind.wrap, IntKind.bits, IntKind.signed]; omega
theorem wrapu32 (v : Int) : IntKind.u32.wrap v = U32 (BitVec.ofInt 32 v) := by
  unfold U32; rw [BitVec.toNat_ofInt]; simp [IntKind.wrap, IntKind.bits, IntKind.signed]; omega
theorem wrapu8 (v : Int) : IntKind.u8.wrap v = U8 (BitVec.ofInt 8 v) := by
  unfold U8; rw [BitVec.toNat_ofInt]; simp [IntKind.wrap, IntKind.bits, IntKind.signed]; omega
theorem wrapi64 (v : Int) : wrap64 v = (BitVec.ofInt 64 v).toInt := by
  rw [BitVec.toInt_ofInt, wrap64]; unfold Int.bmod; dsimp only; split <;> omega

theorem ofInt_U64 (x : BitVec 64) : BitVec.ofInt 64 (U64 x) = x := by
  unfold U64; rw [BitVec.ofInt_natCast]; simp
theorem ofInt_U32 (x : BitVec 32) : BitVec.ofInt 32 (U32 x) = x := by
  unfold U32; rw [BitVec.ofInt_natCast]; simp
theorem ofInt_U8 (x : BitVec 8) : BitVec.ofInt 8 (U8 x) = x := by
  unfold U8; rw [BitVec.ofInt_natCast]; simp

theorem ofInt_mul_pow (n : Nat) (v : Int) (k : Nat) : BitVec.ofInt n (v * 2 ^ k) = BitVec.ofInt n v <<< k := by
  rw [BitVec.ofInt_mul, BitVec.shiftLeft_eq_mul_twoPow]
  congr 1
  have e : (2 : Int) ^ k = ((2 ^ k : Nat) : Int) := by push_cast; rfl
  rw [e, BitVec.ofInt_natCast]
  apply BitVec.eq_of_toNat_eq; rw [BitVec.toNat_twoPow, BitVec.toNat_ofNat]

theorem shlU64 (x : BitVec 64) (k : Nat) : IntKind.u64.wrap (U64 x * 2 ^ k) = U64 (x <<< k) := by
  rw [wrapu64, ofInt_mul_pow, ofInt_U64]
theorem shlU32 (x : BitVec 32) (k : Nat) : IntKind.u32.wrap (U32 x * 2 ^ k) = U32 (x <<< k) := by
  rw [wrapu32, ofInt_mul_pow, ofInt_U32]
theorem shlU8 (x : BitVec 8) (k : Nat) : IntKind.u8.wrap (U8 x * 2 ^ k) = U8 (x <<< k) := by
  rw [wrapu8, ofInt_mul_pow, ofInt_U8]
theorem shrU64 (x : BitVec 64) (k : Nat) : U64 x / 2 ^ k = U64 (x >>> k) := by
  unfold U64; rw [BitVec.toNat_ushiftRight, Nat.shiftRight_eq_div_pow]; push_cast; rfl
theorem shrU32 (x : BitVec 32) (k : Nat) : U32 x / 2 ^ k = U32 (x >>> k) := by
  unfold U32; rw [BitVec.toNat_ushiftRight, Nat.shiftRight_eq_div_pow]; push_cast; rfl
theorem shrU8 (x : BitVec 8) (k : Nat) : U8 x / 2 ^ k = U8 (x >>> k) := by
  unfold U8; rw [BitVec.toNat_ushiftRight, Nat.shiftRight_eq_div_pow]; push_cast; rfl

theorem andU64 (x y : BitVec 64) : bits .and .u64 (U64 x) (U64 y) = U64 (x &&& y) := by
  show IntKind.u64.wrap ((BitVec.ofInt 64 (U64 x) &&& BitVec.ofInt 64 (U64 y)).toNat : Int) = _
  rw [ofInt_U64, ofInt_U64, wrapu64]; congr 1; rw [BitVec.ofInt_natCast]; simp
theorem orU64 (x y : BitVec 64) : bits .or .u64 (U64 x) (U64 y) = U64 (x ||| y) := by
  show IntKind.u64.wrap ((BitVec.ofInt 64 (U64 x) ||| BitVec.ofInt 64 (U64 y)).toNat : Int) = _
  rw [ofInt_U64, ofInt_U64, wrapu64]; congr 1; rw [BitVec.ofInt_natCast]; simp
theorem xorU64 (x y : BitVec 64) : bits .xor .u64 (U64 x) (U64 y) = U64 (x ^^^ y) := by
  show IntKind.u64.wrap ((BitVec.ofInt 64 (U64 x) ^^^ BitVec.ofInt 64 (U64 y)).toNat : Int) = _
  rw [ofInt_U64, ofInt_U64, wrapu64]; congr 1; rw [BitVec.ofInt_natCast]; simp
theorem andNotU64 (x y : BitVec 64) : bits .andNot .u64 (U64 x) (U64 y) = U64 (x &&& ~~~y) := by
  show IntKind.u64.wrap ((BitVec.ofInt 64 (U64 x) &&& ~~~BitVec.ofInt 64 (U64 y)).toNat : Int) = _
  rw [ofInt_U64, ofInt_U64, wrapu64]; congr 1; rw [BitVec.ofInt_natCast, BitVec.ofNat_toNat, BitVec.setWidth_eq]
theorem andU32 (x y : BitVec 32) : bits .and .u32 (U32 x) (U32 y) = U32 (x &&& y) := by
  show IntKind.u32.wrap ((BitVec.ofInt 32 (U32 x) &&& BitVec.ofInt 32 (U32 y)).toNat : Int) = _
  rw [ofInt_U32, ofInt_U32, wrapu32]; congr 1; rw [BitVec.ofInt_natCast]; simp
theorem orU32 (x y : BitVec 32) : bits .or .u32 (U32 x) (U32 y) = U32 (x ||| y) := by
  show IntKind.u32.wrap ((BitVec.ofInt 32 (U32 x) ||| BitVec.ofInt 32 (U32 y)).toNat : Int) = _
  rw [ofInt_U32, ofInt_U32, wrapu32]; congr 1; rw [BitVec.ofInt_natCast]; simp
theorem xorU32 (x y : BitVec 32) : bits .xor .u32 (U32 x) (U32 y) = U32 (x ^^^ y) := by
  show IntKind.u32.wrap ((BitVec.ofInt 32 (U32 x) ^^^ BitVec.ofInt 32 (U32 y)).toNat : Int) = _
  rw [ofInt_U32, ofInt_U32, wrapu32]; congr 1; rw [BitVec.ofInt_natCast]; simp
theorem andU8 (x y : BitVec 8) : bits .and .u8 (U8 x) (U8 y) = U8 (x &&& y) := by
  show IntKind.u8.wrap ((BitVec.ofInt 8 (U8 x) &&& BitVec.ofInt 8 (U8 y)).toNat : Int) = _
  rw [ofInt_U8, ofInt_U8, wrapu8]; congr 1; rw [BitVec.ofInt_natCast]; simp
theorem orU8 (x y : BitVec 8) : bits .or .u8 (U8 x) (U8 y) = U8 (x ||| y) := by
  show IntKind.u8.wrap ((BitVec.ofInt 8 (U8 x) ||| BitVec.ofInt 8 (U8 y)).toNat : Int) = _
  rw [ofInt_U8, ofInt_U8, wrapu8]; congr 1; rw [BitVec.ofInt_natCast]; simp
theorem xorU8 (x y : BitVec 8) : bits .xor .u8 (U8 x) (U8 y) = U8 (x ^^^ y) := by
  show IntKind.u8.wrap ((BitVec.ofInt 8 (U8 x) ^^^ BitVec.ofInt 8 (U8 y)).toNat : Int) = _
  rw [ofInt_U8, ofInt_U8, wrapu8]; congr 1; rw [BitVec.ofInt_natCast]; simp

theorem wrapU64 (x : BitVec 64) : IntKind.u64.wrap (U64 x) = U64 x := by rw [wrapu64, ofInt_U64]
theorem wrapU32 (x : BitVec 32) : IntKind.u32.wrap (U32 x) = U32 x := by rw [wrapu32, ofInt_U32]
theorem wrapU8 (x : BitVec 8) : IntKind.u8.wrap (U8 x) = U8 x := by rw [wrapu8, ofInt_U8]
theorem shl8U64 (x : BitVec 64) : IntKind.u64.wrap (U64 x * 256) = U64 (x <<< 8) := by
  rw [show (256 : Int) = 2 ^ 8 from by decide, shlU64]
theorem shl8U32 (x : BitVec 32) : IntKind.u32.wrap (U32 x * 256) = U32 (x <<< 8) := by
  rw [show (256 : Int) = 2 ^ 8 from by decide, shlU32]
theorem addU64 (x y : BitVec 64) : IntKind.u64.wrap (U64 x + U64 y) = U64 (x + y) := by
  rw [wrapu64, BitVec.ofInt_add, ofInt_U64, ofInt_U64]
theorem subU64 (x y : BitVec 64) : IntKind.u64.wrap (U64 x - U64 y) = U64 (x - y) := by
  rw [wrapu64, Int.sub_eq_add_neg, BitVec.ofInt_add, BitVec.ofInt_neg, ofInt_U64, ofInt_U64, ← BitVec.sub_eq_add_neg]

theorem u8_u32 (x : BitVec 8) : U8 x = U32 (x.setWidth 32) := by have := x.isLt; unfold U8 U32; simp; omega
theorem u8_u64 (x : BitVec 8) : U8 x = U64 (x.setWidth 64) := by have := x.isLt; unfold U8 U64; simp; omega
theorem u32_u64 (x : BitVec 32) : U32 x = U64 (x.setWidth 64) := by have := x.isLt; unfold U32 U64; simp; omega
theorem u64_u8 (x : BitVec 64) : IntKind.u8.wrap (U64 x) = U8 (x.setWidth 8) := by
  rw [wrapu8]; congr 1
theorem u64_u32 (x : BitVec 64) : IntKind.u32.wrap (U64 x) = U32 (x.setWidth 32) := by
  rw [wrapu32]; congr 1
theorem u32_u8 (x : BitVec 32) : IntKind.u8.wrap (U32 x) = U8 (x.setWidth 8) := by
  rw [wrapu8]; congr 1

theorem beqU64 (x y : BitVec 64) : (U64 x == U64 y) = (x == y) := by
  rw [Bool.eq_iff_iff]; simp only [beq_iff_eq]; exact ⟨U64_inj, fun h => by rw [h]⟩
theorem beqU32 (x y : BitVec 32) : (U32 x == U32 y) = (x == y) := by
  rw [Bool.eq_iff_iff]; simp only [beq_iff_eq]; exact ⟨U32_inj, fun h => by rw [h]⟩
theorem beqU8 (x y : BitVec 8) : (U8 x == U8 y) = (x == y) := by
  rw [Bool.eq_iff_iff]; simp only [beq_iff_eq]; exact ⟨U8_inj, fun h => by rw [h]⟩


def I64 (x : BitVec 64) : Int := x.toInt
theorem I64_lo (x : BitVec 64) : -9223372036854775808 ≤ I64 x := by have := BitVec.le_toInt x; unfold I64; omega
theorem I64_hi (x : BitVec 64) : I64 x ≤ 9223372036854775807 := by have := BitVec.toInt_lt (x := x); unfold I64; omega
theorem I64_inj {x y : BitVec 64} (h : I64 x = I64 y) : x = y := BitVec.eq_of_toInt_eq h
theorem I64_of {v : Int} (h : -9223372036854775808 ≤ v) (h2 : v ≤ 9223372036854775807) : v = I64 (BitVec.ofInt 64 v) := by
  unfold I64; rw [BitVec.toInt_ofInt]; unfold Int.bmod; dsimp only; split <;> omega
theorem i64_u64 (x : BitVec 64) : IntKind.u64.wrap (I64 x) = U64 x := by
  rw [wrapu64]; congr 1; unfold I64; apply BitVec.eq_of_toInt_eq; simp
theorem u64_i64 (x : BitVec 64) : wrap64 (U64 x) = I64 x := by
  rw [wrapi64, ofInt_U64]; rfl
theorem beqI64 (x y : BitVec 64) : (I64 x == I64 y) = (x == y) := by
  rw [Bool.eq_iff_iff]; simp only [beq_iff_eq]; exact ⟨I64_inj, fun h => by rw [h]⟩
theorem sarI64 (x : BitVec 64) (k : Nat) : I64 x / 2 ^ k = I64 (x.sshiftRight k) := by
  unfold I64; rw [BitVec.toInt_sshiftRight, Int.shiftRight_eq_div_pow]; push_cast; rfl

/-- The world is as it was, but for draws. -/
def Dn (w w' : World) : Prop := ∃ m, w' = w.drewN m
theorem Dn.rfl_ (w : World) : Dn w w := ⟨0, rfl⟩
theorem Dn.drew {w w' : World} (h : Dn w w') : Dn w w'.drew := by obtain ⟨m, rfl⟩ := h; exact ⟨m + 1, rfl⟩
theorem Dn.drewN {w w' : World} (h : Dn w w') (n : Nat) : Dn w (w'.drewN n) := by obtain ⟨m, rfl⟩ := h; exact ⟨m + n, by rw [World.drewN_drewN]⟩
theorem Dn.trans {w w1 w2 : World} (h : Dn w w1) (k : Dn w1 w2) : Dn w w2 := by obtain ⟨m, rfl⟩ := h; obtain ⟨n, rfl⟩ := k; exact ⟨m + n, by rw [World.drewN_drewN]⟩
theorem Dn.below {w w' : World} (h : Dn w w') (B : Nat) : Below B w w' := by obtain ⟨m, rfl⟩ := h; exact ⟨rfl, rfl, rfl, Nat.le_refl _, fun _ _ => rfl⟩
/-- What a call that only reads leaves. -/
def AnsP (v : Value) (w : World) (e : Ending) (w' : World) : Prop := e = .returned v ∧ Dn w w'
/-- A call that answers v and leaves the world as it was, but for draws. -/
def Ans (P : Program) (f : FuncId) (args : Array Value) (w : World) (v : Value) : Prop := Calls P f args w (AnsP v w)
theorem Ans.go {P : Program} {f : FuncId} {args : Array Value} {w : World} {v : Value} (h : Ans P f args w v) : Calls P f args w fun e w' => e = .returned v ∧ ∃ m, w' = w.drewN m := h
theorem Ans.q {P : Program} {f : FuncId} {args : Array Value} {w : World} {n : Nat} {v : Value} (h : Ans P f args (w.drewN n) v) :
    Calls P f args (w.drewN n) fun e w'' => e = .returned v ∧ ∃ m, w'' = w.drewN m := Calls.quiet_of h
theorem Ans.qa {P : Program} {f : FuncId} {args : Array Value} {w : World} {a n : Nat} {v : Value} (h : Ans P f args (w.drewN (a + n)) v) :
    Calls P f args (w.drewN (a + n)) fun e w'' => e = .returned v ∧ ∃ m, w'' = w.drewN (a + m) :=
  Calls.mono h fun _ _ ⟨he, m, hm⟩ => ⟨he, n + m, by rw [hm, World.drewN_drewN, Nat.add_assoc]⟩
theorem ret_int {k : IntKind} {a b : Int} (h : a = b) : Ending.returned (.int k a) = .returned (.int k b) := by rw [h]
theorem ret_bool {a b : Bool} (h : a = b) : Ending.returned (.bool a) = .returned (.bool b) := by rw [h]
theorem ans_int {k : IntKind} {a b : Int} {w w' : World} (h : a = b) (hw : Dn w w') : AnsP (.int k b) w (.returned (.int k a)) w' := ⟨by rw [h], hw⟩
theorem ans_bool {a b : Bool} {w w' : World} (h : a = b) (hw : Dn w w') : AnsP (.bool b) w (.returned (.bool a)) w' := ⟨by rw [h], hw⟩
end Go.Proofs.YtfodefgihicafaaDoor
/- Slices of one-cell elements as lists: reading them, and rows that the call itself made. No conditions. -/
namespace Go.Proofs.YtfodefgihicafaaDoor
set_option linter.unusedVariables false
set_option linter.unusedSimpArgs false
open Go.RowKit

theorem add_block (a : Addr) (n : Nat) : (a.add n).block = a.block := by unfold Addr.add; split <;> rfl
theorem add_add' (a : Addr) (i j : Nat) : (a.add i).add j = a.add (i + j) := by
  unfold Addr.add; by_cases h : i = 0 <;> by_cases k : j = 0 <;> simp [h, k, Nat.add_assoc]

/-- What lies at A reads as the list xs, element by element through f, in blocks below B. -/
def Rd {α : Type} (f : α → Value) (w : World) (B : Nat) (A : Option Addr) (xs : List α) : Prop :=
  ∀ (j : Nat) (h : j < xs.length), ∃ ad, A = some ad ∧ ad.block < B ∧ w.cell? (ad.add j) = some (f xs[j])
section
variable {α : Type} {f : α → Value} {w w' : World} {B B' : Nat} {A : Option Addr} {xs : List α}
theorem Rd.nil : Rd f w B A [] := fun j h => absurd h (by simp)
theorem Rd.keep (h : Rd f w B A xs) (hk : ∀ p : Addr, p.block < B → w'.cell? p = w.cell? p) : Rd f w' B A xs := fun j hj => by
  obtain ⟨ad, e, hb, hc⟩ := h j hj
  exact ⟨ad, e, hb, (hk _ (by rw [add_block]; exact hb)).trans hc⟩
theorem Rd.more (h : Rd f w B A xs) (hB : B ≤ B') : Rd f w B' A xs := fun j hj => by
  obtain ⟨ad, e, hb, hc⟩ := h j hj
  exact ⟨ad, e, by omega, hc⟩
theorem Rd.below (h : Rd f w B A xs) (hb : Below B w w') : Rd f w' B A xs := h.keep fun _ hp => hb.cell hp
theorem Rd.drew (h : Rd f w B A xs) : Rd f w.drew B A xs := h
theorem Rd.drewN (h : Rd f w B A xs) (k : Nat) : Rd f (w.drewN k) B A xs := h
theorem Rd.alloc (h : Rd f w B A xs) (hB : B ≤ w.heap.size) (o : Obj) : Rd f (w.alloc o) B A xs := h.keep fun p hp => World.cell?_alloc_lt w o p (by omega)
theorem Rd.setCell (h : Rd f w B A xs) {p : Addr} (hB : B ≤ p.block) (u : Value) : Rd f (w.setCell p u) B A xs :=
  h.keep fun q hq => World.cell?_setCell_other w p q u (fun e => by subst e; omega)
theorem Rd.take (h : Rd f w B A xs) (k : Nat) : Rd f w B A (xs.take k) := fun j hj => by
  have hj' : j < xs.length := by simp at hj; omega
  obtain ⟨ad, e, hb, hc⟩ := h j hj'
  exact ⟨ad, e, hb, by rw [hc, List.getElem_take]⟩
theorem Rd.drop (h : Rd f w B A xs) {k cap : Nat} (hc : xs.length ≤ cap) : Rd f w B (if cap = k then A else A.map (·.add k)) (xs.drop k) := fun j hj => by
  have hj' : k + j < xs.length := by simp at hj; omega
  obtain ⟨ad, e, hb, hc'⟩ := h (k + j) hj'
  subst e
  rw [if_neg (by omega)]
  exact ⟨ad.add k, rfl, by rw [add_block]; exact hb, by rw [add_add', hc', List.getElem_drop]⟩
theorem Rd.at_ (h : Rd f w B A xs) {j : Nat} (hj : j < xs.length) : ∃ ad, A = some ad ∧ ad.block < B ∧ w.cell? (ad.add j) = some (f xs[j]) := h j hj
/-- An address for the whole list, where there is an element. -/
theorem Rd.addr (h : Rd f w B A xs) (hx : 0 < xs.length) : ∃ ad, A = some ad ∧ ad.block < B ∧ ∀ j (hj : j < xs.length), w.cell? (ad.add j) = some (f xs[j]) := by
  obtain ⟨ad, e, hb, _⟩ := h 0 hx
  refine ⟨ad, e, hb, fun j hj => ?_⟩
  obtain ⟨ad', e', _, hc⟩ := h j hj
  rw [e] at e'
  injection e' with e'
  rw [e']; exact hc

/-- A row that the call itself made holds the list xs. -/
def Ow (f : α → Value) (E : TypeId) (w : World) (base : Nat) (v : Value) (xs : List α) : Prop := w.ownsRow base E 1 v xs.length (xs.map f)
variable {E : TypeId} {base : Nat} {v : Value}
theorem Ow.nil_ (f : α → Value) (E : TypeId) (w : World) (base : Nat) : Ow f E w base (.slice none 0 0) [] := ⟨by simp, .inl ⟨rfl, by simp⟩⟩
theorem Ow.form (h : Ow f E w base v xs) : ∃ A c, v = .slice A xs.length c ∧ xs.length ≤ c := by
  rcases h.2 with ⟨rfl, hn⟩ | ⟨g, cap, cur, rfl, _, _, hnc, _⟩
  · exact ⟨none, 0, by rw [hn], by omega⟩
  · exact ⟨_, cap, rfl, hnc⟩
theorem Ow.rd {c : Nat} (h : Ow f E w base (.slice A xs.length c) xs) : Rd f w w.heap.size A xs := fun j hj => by
  rcases h.2 with ⟨e, hn⟩ | ⟨g, cap, cur, e, _, hh, _⟩
  · omega
  · injection e with e1 e2 e3
    subst e1
    have hg : g < w.heap.size := by
      rcases Nat.lt_or_ge g w.heap.size with h | h
      · exact h
      · rw [Array.getElem?_eq_none h] at hh; cases hh
    refine ⟨_, rfl, hg, ?_⟩
    exact World.ownsRow.cells h (g := g) rfl j _ (by simp [hj])
theorem Ow.lt (h : Ow f E w base v xs) : ∀ k, v.ownBlock = some k → base ≤ k ∧ k < w.heap.size := World.ownsRow.lt h
theorem Ow.kept {row : Option Nat} (h : Ow f E w base v xs) (hg : w.grownBy w' row) (hne : v.ownBlock = none ∨ v.ownBlock ≠ row) : Ow f E w' base v xs := World.ownsRow.kept h hg hne
theorem Ow.below (h : Ow f E w base v xs) (hb : Below w.heap.size w w') : Ow f E w' base v xs :=
  World.ownsRow.kept (row := none) h ⟨hb.os, hb.tape, hb.output, hb.size, fun k hk _ => hb.block k hk⟩ (by cases v.ownBlock <;> simp)
theorem Ow.alloc (h : Ow f E w base v xs) (o : Obj) : Ow f E (w.alloc o) base v xs := World.ownsRow.alloc h o
theorem Ow.mono {b : Nat} (h : Ow f E w base v xs) (hb : b ≤ base) : Ow f E w b v xs := by
  obtain ⟨h1, h2⟩ := h
  refine ⟨h1, ?_⟩
  rcases h2 with h2 | ⟨g, cap, cur, e, hg, r⟩
  · exact .inl h2
  · exact .inr ⟨g, cap, cur, e, by omega, r⟩
end

section
variable {α : Type} {f : α → Value} {E : TypeId} {w : World} {base n cap g : Nat} {xs : List α}
theorem Ow.cell (h : Ow f E w base (.slice (some ⟨g, 0, none⟩) n cap) xs) {j : Nat} (hj : j < xs.length) : w.cell? ⟨g, j, none⟩ = some (f xs[j]) := by
  have hn : n = xs.length := by
    rcases h.2 with ⟨e, hn⟩ | ⟨_, _, _, e, _⟩
    · cases e
    · injection e
  subst hn
  have := World.ownsRow.cellAt h j (by omega)
  rw [this]; simp [hj]
theorem Ow.free (h : Ow f E w base (.slice (some ⟨g, 0, none⟩) n cap) xs) (j : Nat) : w.frozen? ⟨g, j, none⟩ = false := by
  have hn : n = xs.length := by
    rcases h.2 with ⟨e, hn⟩ | ⟨_, _, _, e, _⟩
    · cases e
    · injection e
  subst hn
  exact World.ownsRow.frozenAt h j
theorem Ow.set (h : Ow f E w base (.slice (some ⟨g, 0, none⟩) n cap) xs) {j : Nat} (hj : j < xs.length) (y : α) : Ow f E (w.setCell ⟨g, j, none⟩ (f y)) base (.slice (some ⟨g, 0, none⟩) n cap) (xs.set j y) := by
  have hn : n = xs.length := by
    rcases h.2 with ⟨e, hn⟩ | ⟨_, _, _, e, _⟩
    · cases e
    · injection e
  subst hn
  have := World.ownsRow.stored h j (f y)
  unfold Ow
  rw [List.length_set, List.map_set]
  exact this.1
theorem Ow.ge (h : Ow f E w base (.slice (some ⟨g, 0, none⟩) n cap) xs) : base ≤ g ∧ g < w.heap.size := World.ownsRow.lt h g rfl
theorem Ow.drewN {v : Value} (h : Ow f E w base v xs) (k : Nat) : Ow f E (w.drewN k) base v xs := h
end
section
variable {P : Program} {α : Type} {f : α → Value} {t e : TypeId} {z : Value} {bytes : Nat} {w : World} {ops : Array Oper} {rest : List Oper} {o : Oper} {a : Act} {Q : Exit → Act → World → Prop}
/-- 'copy(d, s)': d the whole of a row of the call's own, s any list that is read. -/
theorem wp_copy (hu : P.underlying t = some (.slice e)) (hsz : (P.info? e).map (·.size) = some 1) (hf : ∀ x, (f x).oneCell' = true) (hgd : o.guard = none) (d s : Operand)
    (ho : o.op = .call { callee := .builtin .copy, args := #[d, s], argTypes := #[t, t] })
    (base g n cap : Nat) (xs : List α) (hd : a.eval d = .slice (some ⟨g, 0, none⟩) n cap) (hown : Ow f e w base (.slice (some ⟨g, 0, none⟩) n cap) xs)
    (A : Option Addr) (m c : Nat) (ys : List α) (hs : a.eval s = .slice A m c) (hm : m = ys.length) (B : Nat) (hr : Rd f w B A ys)
    (h : ∀ w' k, k = Nat.min ys.length xs.length → Ow f e w' base (.slice (some ⟨g, 0, none⟩) n cap) (ys.take k ++ xs.drop k) → Below base w w' → wpList P ops Q rest (a.put o.dst (goInt k)) w') : wpList P ops Q (o :: rest) a w := by
  subst hm
  obtain ⟨hl, h2⟩ := hown
  obtain ⟨k, hk⟩ : ∃ k, k = Nat.min ys.length xs.length := ⟨_, rfl⟩
  have hk1 : k ≤ ys.length := by rw [hk]; exact Nat.min_le_left _ _
  have hk2 : k ≤ xs.length := by rw [hk]; exact Nat.min_le_right _ _
  rcases h2 with ⟨e1, _⟩ | ⟨g', cap', cur, e1, hg, hh, hnc, hcm, hcs, htk⟩
  · cases e1
  · injection e1 with e1 e2 e3
    injection e1 with e1
    injection e1 with e1
    subst e1
    subst e3
    have hlen : ((ys.take k).map f).length = k := by rw [List.length_map, List.length_take]; omega
    have hcs' : cur.size = cap := by omega
    have hpos : 0 < ((ys.take k).map f).length → some (⟨g, 0, none⟩ : Addr) = some ⟨g, 0, none⟩ ∧ ∃ ad, A = some ad ∧ ∀ j v, ((ys.take k).map f)[j]? = some v → w.cell? (ad.add j) = some v := by
      intro hp
      rw [hlen] at hp
      obtain ⟨ad, rfl, _, hc⟩ := hr.addr (by omega)
      refine ⟨rfl, ad, rfl, fun j v hv => ?_⟩
      have hj : j < k := by
        have := (List.getElem?_eq_some_iff.1 hv).1
        omega
      rw [hc j (by omega)]
      rw [List.getElem?_map, List.getElem?_take_of_lt hj, List.getElem?_eq_getElem (by omega)] at hv
      simpa using hv
    have hm1 : ((ys.take k).map f).length = Nat.min ys.length n := by rw [hlen, hk, e2]
    refine wpList_copy_splice hgd d s t t ho e hu hsz (some ⟨g, 0, none⟩) A n cap ys.length c hd hs g 0 cur.toList e (by simpa using hh) ((ys.take k).map f) hm1 hpos (by rw [hlen, Array.length_toList]; omega) (by intro u hu'; rw [List.mem_map] at hu'; obtain ⟨x, _, rfl⟩ := hu'; exact hf x) base w (Below.refl _ _) hg ?_
    intro w' hh' hb'
    rw [hlen]
    have e5 : (ys.take k ++ xs.drop k).length = xs.length := by rw [List.length_append, List.length_take, List.length_drop]; omega
    refine h w' k hk ⟨?_, .inr ⟨g, cap, (splice cur.toList 0 ((ys.take k).map f)).toArray, ?_, hg, hh'.out, ?_, hcm, ?_, ?_⟩⟩ hb'
    · rw [List.length_map, Nat.mul_one]
    · rw [e5, e2]
    · rw [e5]; exact hnc
    · rw [List.size_toArray, length_splice _ _ _ (by rw [hlen, Array.length_toList]; omega)]; simpa using hcs
    · have e6 : cur.toList.take xs.length = xs.map f := by rw [Nat.mul_one] at htk; exact htk
      simp only [splice, List.take_zero, List.nil_append, e5, Nat.mul_one, Nat.zero_add, hlen]
      rw [List.map_append, List.map_drop, ← e6, List.take_append, hlen, List.drop_take, List.take_of_length_le (by rw [hlen]; omega)]
end

theorem rd1 {α : Type} {f : α → Value} {w : World} {B g : Nat} {y : α} (h : w.cell? ⟨g, 0, none⟩ = some (f y)) (hg : g < B) : Rd f w B (some ⟨g, 0, none⟩) [y] := fun j hj => by
  have : j = 0 := by simp at hj; omega
  subst this
  exact ⟨_, rfl, hg, h⟩
theorem rd1_new {α : Type} {f : α → Value} {w : World} {E : TypeId} {y : α} {u : Value} (h : u = f y) : Rd f (w.alloc (.cells #[u] E)) (w.heap.size + 1) (some ⟨w.heap.size, 0, none⟩) [y] :=
  rd1 (by rw [h]; exact cell_one_new _ _ _ 0 _ rfl) (by omega)
/-- '[]T{}': a row of the call's own with nothing in it. -/
theorem ow_empty {α : Type} (f : α → Value) (E : TypeId) (w : World) (base : Nat) (hb : base ≤ w.heap.size) : Ow f E (w.alloc (.cells #[] E)) base (.slice (some ⟨w.heap.size, 0, none⟩) 0 0) [] :=
  World.ownsRow_lit w #[] 0 hb (by simp [maxLen]) rfl
/-- Where a cut of a slice begins. -/
def cutA (a : Option Addr) (m l : Nat) : Option Addr := if m = l then a else a.map (·.add l)
theorem sliced_cut (a : Option Addr) (l h m : Nat) : sliced a l h m 1 = .slice (cutA a m l) (h - l) (m - l) := by simp [sliced, cutA]
theorem cutA_zero (a : Option Addr) (m : Nat) : cutA a m 0 = a := by
  unfold cutA
  split
  · rfl
  · cases a <;> simp [Addr.add]
theorem Rd.cut {α : Type} {f : α → Value} {w : World} {B : Nat} {A : Option Addr} {xs : List α} (h : Rd f w B A xs) {k cap : Nat} (hc : xs.length ≤ cap) : Rd f w B (cutA A cap k) (xs.drop k) := h.drop hc
/-- Block g holds just the cells cs, none frozen. -/
def Bk (w : World) (g : Nat) (E : TypeId) (cs : Array Value) : Prop := w.heap[g]? = some (.cells cs E (0, 0))
theorem Bk.lt {w : World} {g : Nat} {E : TypeId} {cs : Array Value} (h : Bk w g E cs) : g < w.heap.size := by
  rcases Nat.lt_or_ge g w.heap.size with hl | hl
  · exact hl
  · unfold Bk at h; rw [Array.getElem?_eq_none hl] at h; cases h
theorem Bk.new (w : World) (E : TypeId) (cs : Array Value) : Bk (w.alloc (.cells cs E)) w.heap.size E cs := heap_alloc_new w _
theorem Bk.alloc {w : World} {g : Nat} {E : TypeId} {cs : Array Value} (h : Bk w g E cs) (o : Obj) : Bk (w.alloc o) g E cs := (Below.heap_alloc w o g h.lt).trans h
theorem Bk.drewN {w : World} {g : Nat} {E : TypeId} {cs : Array Value} (h : Bk w g E cs) (n : Nat) : Bk (w.drewN n) g E cs := h
theorem Bk.drew {w : World} {g : Nat} {E : TypeId} {cs : Array Value} (h : Bk w g E cs) : Bk w.drew g E cs := h
theorem Bk.below {w w' : World} {B g : Nat} {E : TypeId} {cs : Array Value} (h : Bk w g E cs) (hb : Below B w w') (hg : g < B) : Bk w' g E cs := (hb.block g hg).trans h
theorem Bk.far {w : World} {g : Nat} {E : TypeId} {cs : Array Value} (h : Bk w g E cs) {p : Addr} (hp : g ≠ p.block) (u : Value) : Bk (w.setCell p u) g E cs := (Below.heap_setCell w p u g hp).trans h
theorem Bk.set {w : World} {g : Nat} {E : TypeId} {cs : Array Value} (h : Bk w g E cs) (i : Nat) (u : Value) : Bk (w.setCell ⟨g, i, none⟩ u) g E (cs.setIfInBounds i u) := by
  unfold Bk at h ⊢
  simp [World.setCell, Array.getElem?_modify, h]
theorem Bk.cell {w : World} {g : Nat} {E : TypeId} {cs : Array Value} (h : Bk w g E cs) (i : Nat) : w.cell? ⟨g, i, none⟩ = cs[i]? := cell_of_row w g i cs E (0, 0) h
theorem Bk.free {w : World} {g : Nat} {E : TypeId} {cs : Array Value} (h : Bk w g E cs) (i : Nat) : w.frozen? ⟨g, i, none⟩ = false := by
  unfold Bk at h; simp [World.frozen?, h]
theorem Bk.rd {α : Type} {f : α → Value} {w : World} {g B : Nat} {E : TypeId} {cs : Array Value} {xs : List α} (h : Bk w g E cs) (e : cs = (xs.map f).toArray) (hB : g < B) : Rd f w B (some ⟨g, 0, none⟩) xs := fun j hj => by
  refine ⟨_, rfl, hB, ?_⟩
  have e2 : ((⟨g, 0, none⟩ : Addr).add j) = ⟨g, j, none⟩ := by unfold Addr.add; split <;> simp_all
  rw [e2, h.cell, e]
  simp [hj]
theorem bdrewN {B : Nat} {a w : World} (h : Below B a w) (n : Nat) : Below B a (w.drewN n) := ⟨h.os, h.tape, h.output, h.size, h.block⟩
theorem below_of_grown {B : Nat} {w w' : World} {row : Option Nat} (hg : w.grownBy w' row) (hB : B ≤ w.heap.size) (hr : ∀ k, row = some k → B ≤ k) : Below B w w' := (Below.refl B w).grown hg hB hr
theorem le_size {w w' : World} {B : Nat} (h : Below B w w') : w.heap.size ≤ w'.heap.size := h.size

/-- Facts on an element's type of one cell. -/
structure One (P : Program) (t e : TypeId) (z : Value) (bytes : Nat) : Prop where
  under : P.underlying t = some (.slice e)
  info : ∃ i, P.info? e = some i ∧ i.zero = some z ∧ i.size = 1 ∧ i.bytes = bytes
  cell : z.cells = #[z]

section
variable {P : Program} {α : Type} {f : α → Value} {t e : TypeId} {z : Value} {bytes : Nat} {w : World} {ops : Array Oper} {rest : List Oper} {o : Oper} {a : Act} {Q : Exit → Act → World → Prop}
/-- 'append(s, x...)': s nil or the call's own row, x any list that is read. -/
theorem wp_app (one : One P t e z bytes) (hf : ∀ x, (f x).oneCell' = true) (hgd : o.guard = none) (s x : Operand)
    (ho : o.op = .call { callee := .builtin .append, args := #[s, x], argTypes := #[t, t] })
    (base : Nat) (v : Value) (xs : List α) (hs : a.eval s = v) (hown : Ow f e w base v xs)
    (A : Option Addr) (m c : Nat) (ys : List α) (hx : a.eval x = .slice A m c) (hm : m = ys.length) (B : Nat) (hr : Rd f w B A ys)
    (h63 : xs.length + ys.length ≤ 4294967296) (hby : bytes ≤ 32768) (hbase : base ≤ w.heap.size)
    (h : ∀ v' w', Ow f e w' base v' (xs ++ ys) → Below base w w' → w.grownBy w' v.ownBlock → (v'.ownBlock = v.ownBlock ∨ v'.ownBlock = some w.heap.size) → wpList P ops Q rest (a.put o.dst v') w') : wpList P ops Q (o :: rest) a w := by
  subst hm
  obtain ⟨i, hi, hz, hsize, hbytes⟩ := one.info
  have hzs : z.cells.size = 1 := by rw [one.cell]; rfl
  have hbb : (xs.length + ys.length) * bytes ≤ 140737488355328 := by
    have := Nat.mul_le_mul h63 hby
    omega
  have hbel : ∀ (v' : Value) (w' : World), w.grownBy w' v.ownBlock → Below base w w' := fun v' w' hg => (Below.refl _ _).grown hg hbase (fun k hk => (hown.lt k hk).1)
  refine wpList_plain hgd fun K hK => ?_
  rcases Nat.eq_zero_or_pos ys.length with h0 | hpos
  · have hy : ys = [] := List.eq_nil_of_length_eq_zero h0
    subst hy
    have hrun : (Builtin.append_ #[t, t] o.type #[v, .slice A 0 c]).run P w = .ok v w ∨ ∃ ad, A = some ad := by
      rcases A with _ | ad
      · left
        rcases hown.2 with ⟨rfl, hn⟩ | ⟨g, cap, cur, rfl, _, _, hnc, _⟩
        · simp [Builtin.append_, run_underlying one.under, sizeOf, typeInfo, hi, Builtin.lenOf, Builtin.firstCells]
        · simp [Builtin.append_, run_underlying one.under, sizeOf, typeInfo, hi, Builtin.lenOf, Builtin.firstCells, hnc, storeCells]
      · exact .inr ⟨ad, rfl⟩
    rcases hrun with hrun | ⟨ad, rfl⟩
    · unfold Oper.wp execOp
      simp only [ho, resolve, invoke, builtin, Sem.run_bind, Sem.run_pure, Result.andThen_ok, List.map_toArray, List.map_cons, List.map_nil, hs, hx, List.length_nil, hrun]
      exact hK _ _ (h v w (by simpa using hown) (Below.refl _ _) (World.grownBy.refl w _) (.inl rfl))
    · obtain ⟨v', w', hrun, h2, h3, _, h5⟩ := run_append_own_at (P := P) w base t o.type e i z 1 bytes one.under hi hz hsize hbytes hzs (by decide) v xs.length (xs.map f) hown ad 0 c [] rfl (by simp) (by simp) (by simp only [maxLen]; omega) (by simpa using hbb) hbase
      unfold Oper.wp execOp
      simp only [ho, resolve, invoke, builtin, Sem.run_bind, Sem.run_pure, Result.andThen_ok, List.map_toArray, List.map_cons, List.map_nil, hs, hx, List.length_nil, hrun]
      exact hK _ _ (h v' w' (by simpa [Ow] using h2) (hbel v' w' h3) h3 h5)
  · obtain ⟨ad, rfl, hb, hc⟩ := hr.addr hpos
    obtain ⟨v', w', hrun, h2, h3, _, h5⟩ := run_append_own_at (P := P) w base t o.type e i z 1 bytes one.under hi hz hsize hbytes hzs (by decide) v xs.length (xs.map f) hown ad ys.length c (ys.map f) (by simp)
      (fun j u hu => by
        have hj : j < ys.length := by
          have := (List.getElem?_eq_some_iff.1 hu).1
          simpa using this
        rw [hc j hj]
        rw [List.getElem?_map, List.getElem?_eq_getElem hj] at hu
        simpa using hu) (by simp; intro x _; exact hf x) (by simp only [maxLen]; omega) hbb hbase
    unfold Oper.wp execOp
    simp only [ho, resolve, invoke, builtin, Sem.run_bind, Sem.run_pure, Result.andThen_ok, List.map_toArray, List.map_cons, List.map_nil, hs, hx, hrun]
    exact hK _ _ (h v' w' (by simpa [Ow] using h2) (hbel v' w' h3) h3 h5)

/-- 'make([]T, n)'. -/
theorem wp_make (one : One P t e z bytes) (hgd : o.guard = none) (l c : Operand) (hop : o.op = Op.makeSlice t l c) (zf : α) (hz0 : f zf = z)
    (base n : Nat) (kl kc : IntKind) (L C : Int) (hl : a.eval l = .int kl L) (hc : a.eval c = .int kc C) (hL : L = (n : Int)) (hC : C = (n : Int)) (hn : n ≤ 4294967296) (hby : bytes ≤ 32768) (hbase : base ≤ w.heap.size)
    (h : ∀ g w', g = w.heap.size → Ow f e w' base (.slice (some ⟨g, 0, none⟩) n n) (List.replicate n zf) → Below base w w' → w.grownBy w' none → wpList P ops Q rest (a.put o.dst (.slice (some ⟨g, 0, none⟩) n n)) w') :
    wpList P ops Q (o :: rest) a w := by
  obtain ⟨i, hi, hz, hsize, hbytes⟩ := one.info
  have hbb : i.bytes * n ≤ 281474976710656 := by
    rw [hbytes]
    have := Nat.mul_le_mul hby hn
    omega
  refine wpList_make_full w hgd l c t hop base e i z 1 one.under hi hz hsize kl kc L C n hl hc hL hC hbb (by simp only [maxLen]; omega) hbase ?_
  intro w' ho hg
  refine h _ w' rfl ?_ ((Below.refl _ _).grown hg hbase (by simp)) hg
  have e : (madeCells z.cells (n * 1)).toList = (List.replicate n zf).map f := by
    rw [one.cell, toList_madeCells_one, List.map_replicate, hz0, Nat.mul_one]
  rw [e] at ho
  unfold Ow
  rw [List.length_replicate]
  exact ho
end
end Go.Proofs.YtfodefgihicafaaDoor
/- What a call leaves that only makes blocks of its own. No conditions. -/
namespace Go.Proofs.YtfodefgihicafaaDoor
set_option linter.unusedVariables false
set_option linter.unusedSimpArgs false
open Go.RowKit
theorem bdN {B : Nat} {a w : World} (h : Below B a w) (n : Nat) : Below B a (w.drewN n) := ⟨h.os, h.tape, h.output, h.size, h.block⟩
/-- A call that answers v; what was there ahead of it is as it was. -/
def RetP (v : Value) (w : World) (e : Ending) (w' : World) : Prop := e = .returned v ∧ Below w.heap.size w w'
theorem ret_b {a b : Bool} {w w' : World} (h : a = b) (hb : Below w.heap.size w w') : RetP (.bool b) w (.returned (.bool a)) w' := ⟨by rw [h], hb⟩
theorem ret_i {k : IntKind} {a b : Int} {w w' : World} (h : a = b) (hb : Below w.heap.size w w') : RetP (.int k b) w (.returned (.int k a)) w' := ⟨by rw [h], hb⟩
theorem ret_v {a b : Value} {w w' : World} (h : a = b) (hb : Below w.heap.size w w') : RetP b w (.returned a) w' := ⟨by rw [h], hb⟩
theorem tup_ue {a b : BitVec 64} {x y : Int} (h : a = b) (h2 : x = y) : Value.tuple #[.int .u64 (U64 a), .int .i64 x] = .tuple #[.int .u64 (U64 b), .int .i64 y] := by rw [h, h2]
theorem boxed {w w1 : World} {E : TypeId} {cs : Array Value} (hb : Below (w.alloc (.cells cs E)).heap.size (w.alloc (.cells cs E)) w1) : Bk w1 w.heap.size E cs ∧ Below w.heap.size w w1 :=
  ⟨(Bk.new w E cs).below hb (by simp), ((Below.refl _ _).alloc (Nat.le_refl _) _).trans (hb.mono (by simp))⟩
theorem boxed2 {w w1 : World} {E F : TypeId} {a b : Array Value} {k : Nat} (hb : Below (((w.alloc (.cells a E)).drewN k).alloc (.cells b F)).heap.size (((w.alloc (.cells a E)).drewN k).alloc (.cells b F)) w1) :
    Bk w1 w.heap.size E a ∧ Bk w1 (w.heap.size + 1) F b ∧ Below w.heap.size w w1 := by
  have h2 := Bk.new ((w.alloc (.cells a E)).drewN k) F b
  simp only [World.heap_drewN, World.size_alloc] at h2
  refine ⟨((((Bk.new w E a).drewN k).alloc _).below hb (by simp; omega)), h2.below hb (by simp), ?_⟩
  exact (bdN (Below.refl _ w |>.alloc (Nat.le_refl _) _) k |>.alloc (by simp) _).trans (hb.mono (by simp; omega))
theorem Bk.two {w : World} {g : Nat} {E : TypeId} {a b : Value} (h : Bk w g E #[a, b]) : w.cell? ⟨g, 0, none⟩ = some a ∧ w.cell? ⟨g, 1, none⟩ = some b := ⟨h.cell 0, h.cell 1⟩
theorem Bk.three {w : World} {g : Nat} {E : TypeId} {a b c : Value} (h : Bk w g E #[a, b, c]) : w.cell? ⟨g, 0, none⟩ = some a ∧ w.cell? ⟨g, 1, none⟩ = some b ∧ w.cell? ⟨g, 2, none⟩ = some c := ⟨h.cell 0, h.cell 1, h.cell 2⟩
theorem Bk.four {w : World} {g : Nat} {E : TypeId} {a b c d : Value} (h : Bk w g E #[a, b, c, d]) : w.cell? ⟨g, 0, none⟩ = some a ∧ w.cell? ⟨g, 1, none⟩ = some b ∧ w.cell? ⟨g, 2, none⟩ = some c ∧ w.cell? ⟨g, 3, none⟩ = some d := ⟨h.cell 0, h.cell 1, h.cell 2, h.cell 3⟩
end Go.Proofs.YtfodefgihicafaaDoor
/- One operation, by its operands' values alone; facts on what it leaves. No conditions. -/
namespace Go.Proofs.YtfodefgihicafaaDoor
set_option linter.unusedVariables false
set_option linter.unusedSimpArgs false
open Go.RowKit
/-- Operation op, of operands ρ, comes to a value and a world as R says. -/
def OpV (P : Program) (op : Op) (type : TypeId) (ρ : Operand → Value) (w : World) (R : Value → World → Prop) : Prop :=
  ∃ n w1, (execOp ρ { dst := none, op, type, pos := "", after := #[], guard := none }).run P w = .ok n w1 ∧ match n with
    | .value v => R v w1
    | .skip => R undef w1
    | .enter f args => Calls P f args w1 fun e w2 => ∃ v, e = .returned v ∧ R v w2
    | _ => False
theorem execOp_of (ρ : Operand → Value) (o : Oper) : execOp ρ o = execOp ρ { dst := none, op := o.op, type := o.type, pos := "", after := #[], guard := none } := by
  obtain ⟨dst, op, type, pos, after, guard⟩ := o
  cases op <;> rfl
section
variable {P : Program} {op : Op} {type : TypeId} {ρ : Operand → Value} {w w1 : World} {R : Value → World → Prop} {v : Value} {f : FuncId} {args : Array Value}
theorem opv_val (h : (execOp ρ { dst := none, op, type, pos := "", after := #[], guard := none }).run P w = .ok (.value v) w1) (hR : R v w1) : OpV P op type ρ w R := ⟨_, _, h, hR⟩
theorem opv_enter (h : (execOp ρ { dst := none, op, type, pos := "", after := #[], guard := none }).run P w = .ok (.enter f args) w1) (hR : Calls P f args w1 fun e w2 => ∃ v, e = .returned v ∧ R v w2) : OpV P op type ρ w R := ⟨_, _, h, hR⟩
theorem opv_wp {o : Oper} {a : Act} {K : Act → World → Prop} (h : OpV P o.op o.type a.eval w R) (hk : ∀ v w', R v w' → K (a.put o.dst v) w') : Oper.wp P o a w K NoQ := by
  obtain ⟨n, w1, hr, h⟩ := h
  unfold Oper.wp
  rw [execOp_of, hr]
  cases n <;> simp only [Oper.upon] at h ⊢ <;> first | exact hk _ _ h | exact h.elim | skip
  case enter f args =>
    refine Calls.mono h fun e w'' he => ?_
    obtain ⟨v, rfl, hR⟩ := he
    exact hk _ _ hR
end
section
variable {P : Program} {ops : Array Oper} {Q : Exit → Act → World → Prop} {G : World → World → Prop} {F : Nat → Value → World → Prop} {a0 : Act} {w0 : World}
def callsB : Op → Bool | .defer _ => false | .select .. => false | _ => true
/-- What is known of operation i: what it does, and that it has no guard. -/
def isOpB (ops : Array Oper) (i : Nat) (op : Op) (type : TypeId) : Prop := ∃ o, ops[i]? = some o ∧ o.op = op ∧ o.type = type
theorem isOp_mk {i : Nat} {op : Op} {type : TypeId} (h : (ops[i]?).map (fun o => (o.op, o.type)) = some (op, type)) : isOpB ops i op type := by
  cases ho : ops[i]? with
  | none => rw [ho] at h; cases h
  | some o =>
    rw [ho] at h
    simp only [Option.map_some, Option.some.injEq, Prod.mk.injEq] at h
    exact ⟨o, ho, h.1, h.2⟩
theorem owes_v {i : Nat} (op : Op) (type : TypeId) (js : List Nat) (ho : (ops[i]?).map (fun o => (o.op, o.type)) = some (op, type)) (hg : (ops[i]?).bind (·.guard) = none) (hsee : seesB ops i js = true)
    (hnd : callsB op = true)
    (h : ∀ (vals : Nat → Value) (w : World) (ρ : Operand → Value), G w0 w → (∀ j ∈ js, F j (vals j) w) → (∀ t, ρ (.tmp t) = (putL ops vals js a0).tmps.getD t undef) → (∀ c, ρ (.const c) = c) → (∀ f, ρ (.func f) = .func (.func f) #[] #[]) →
      OpV P op type ρ w fun v w' => G w w' ∧ F i v w') : Owes P ops Q G F a0 w0 i := by
  obtain ⟨o, h1, h2, h3⟩ := isOp_mk ho
  subst h2 h3
  rw [h1] at hg
  exact owes_of js h1 hg hsee (by revert hnd; cases o.op <;> simp [callsB]) fun vals w hG hF K hK => opv_wp (h vals w (putL ops vals js a0).eval hG hF (fun t => rfl) (fun c => rfl) (fun f => rfl)) fun v w' hr => hK v w' hr.1 hr.2
theorem owes_vif {i k : Nat} {want : Bool} (op : Op) (type : TypeId) (c : Bool) (js : List Nat) (ho : (ops[i]?).map (fun o => (o.op, o.type)) = some (op, type)) (hg : (ops[i]?).bind (·.guard) = some (k, want)) (hk : waitsB ops i k = true) (hc : ∀ v w, F k v w → v = .bool c)
    (hsz : ∀ d, dstOf ops k = some d → d < a0.tmps.size) (hkd : (dstOf ops k).isSome = true) (hsee : seesB ops i js = true)
    (hnd : callsB op = true)
    (yes : c = want → ∀ (vals : Nat → Value) (w : World) (ρ : Operand → Value), G w0 w → (∀ j ∈ js, F j (vals j) w) → (∀ t, ρ (.tmp t) = (putL ops vals js a0).tmps.getD t undef) → (∀ c, ρ (.const c) = c) → (∀ f, ρ (.func f) = .func (.func f) #[] #[]) →
      OpV P op type ρ w fun v w' => G w w' ∧ F i v w')
    (no : c ≠ want → ∀ w, G w0 w → G w w ∧ F i undef w) : Owes P ops Q G F a0 w0 i := by
  obtain ⟨o, h1, h2, h3⟩ := isOp_mk ho
  subst h2 h3
  rw [h1] at hg
  exact owes_if c js h1 hg hk hc hsz hkd hsee (by revert hnd; cases o.op <;> simp [callsB]) (fun e vals w hG hF K hK => opv_wp (yes e vals w (putL ops vals js a0).eval hG hF (fun t => rfl) (fun c => rfl) (fun f => rfl)) fun v w' hr => hK v w' hr.1 hr.2) no
end
section
variable {P : Program} {ops : Array Oper} {Q : Exit → Act → World → Prop} {F : Nat → Value → World → Prop} {a0 : Act} {w0 : World}
theorem gw_self (w : World) : Below w.heap.size w w := Below.refl _ _
def copies (t : Tmp) : Op → Bool
  | .move (.tmp u) => u == t
  | .assign (.tmp u) => u == t
  | _ => false
theorem copies_run {P : Program} {op : Op} {type : TypeId} {t : Tmp} {ρ : Operand → Value} {w : World} (h : copies t op = true) : (execOp ρ { dst := none, op, type, pos := "", after := #[], guard := none }).run P w = .ok (.value (ρ (.tmp t))) w := by
  cases op <;> simp only [copies] at h <;> try cases h
  all_goals
    rename_i x
    cases x <;> simp only [beq_iff_eq] at h <;> try cases h
    rfl
/-- A copy of a slot that is as it was. -/
theorem owes_mv {i : Nat} (t : Tmp) {c : Value} (ho : ((ops[i]?).map fun o => copies t o.op) = some true) (hg : (ops[i]?).bind (·.guard) = none) (hsee : seesB ops i [] = true) (hv : a0.tmps.getD t undef = c) (hF : ∀ w, F i c w) :
    Owes P ops Q (fun w w' => Below w.heap.size w w') F a0 w0 i := by
  cases hi : ops[i]? with
  | none => rw [hi] at ho; cases ho
  | some o =>
    rw [hi] at ho
    simp only [Option.map_some, Option.some.injEq] at ho
    refine owes_v o.op o.type [] (by rw [hi]; rfl) hg hsee (by revert ho; cases o.op <;> simp [copies, callsB]) fun vals w ρ hG hF' hρ hc hf => ?_
    exact opv_val (copies_run ho) ⟨gw_self _, by rw [hρ t]; show F i (a0.tmps.getD t undef) w; rw [hv]; exact hF w⟩
/-- A copy of what operation j leaves. -/
theorem owes_mvj {i : Nat} (j : Nat) (t : Tmp) (ho : ((ops[i]?).map fun o => copies t o.op) = some true) (hg : (ops[i]?).bind (·.guard) = none) (hsee : seesB ops i [j] = true) (hd : dstOf ops j = some t) (hl : t < a0.tmps.size) (hF : ∀ v w, F j v w → F i v w) :
    Owes P ops Q (fun w w' => Below w.heap.size w w') F a0 w0 i := by
  cases hi : ops[i]? with
  | none => rw [hi] at ho; cases ho
  | some o =>
    rw [hi] at ho
    simp only [Option.map_some, Option.some.injEq] at ho
    refine owes_v o.op o.type [j] (by rw [hi]; rfl) hg hsee (by revert ho; cases o.op <;> simp [copies, callsB]) fun vals w ρ hG hF' hρ hc hf => ?_
    refine opv_val (copies_run ho) ⟨gw_self _, ?_⟩
    rw [hρ t]
    unfold putL putL
    rw [hd, put_same _ _ _ hl]
    exact hF _ _ (hF' j (.head _))
/-- What operation j has left, in its slot. -/
def slotB (ops : Array Oper) (js : List Nat) (j : Nat) (d : Tmp) : Bool := js.reverse.find? (fun k => dstOf ops k == some d) == some j
theorem putL_append {vals : Nat → Value} (xs ys : List Nat) : ∀ a : Act, putL ops vals (xs ++ ys) a = putL ops vals ys (putL ops vals xs a) := by
  induction xs with
  | nil => intro a; rfl
  | cons x xs ih => intro a; exact ih _
/-- What operation j has left, in its slot. -/
theorem slotJ {vals : Nat → Value} {j : Nat} {d : Tmp} (js : List Nat) (hl : d < a0.tmps.size) (hb : slotB ops js j d = true) : (putL ops vals js a0).tmps.getD d undef = vals j := by
  unfold slotB at hb
  rw [beq_iff_eq] at hb
  have key : ∀ l : List Nat, l.find? (fun k => dstOf ops k == some d) = some j → (putL ops vals l.reverse a0).tmps.getD d undef = vals j := by
    intro l
    induction l with
    | nil => intro h; cases h
    | cons x l ih =>
      intro h
      rw [List.reverse_cons, putL_append]
      show ((putL ops vals l.reverse a0).put (dstOf ops x) (vals x)).tmps.getD d undef = vals j
      rw [List.find?_cons] at h
      by_cases e : dstOf ops x = some d
      · rw [e] at h ⊢
        simp only [beq_self_eq_true, Option.some.injEq] at h
        subst h
        exact put_same _ _ _ (by rw [putL_size]; exact hl)
      · rw [put_other _ _ _ _ e]
        have e2 : (dstOf ops x == some d) = false := by rw [beq_eq_false_iff_ne]; exact e
        rw [e2] at h
        exact ih h
  have := key js.reverse hb
  rwa [List.reverse_reverse] at this
/-- A slot that none of them writes. -/
theorem slotO {vals : Nat → Value} {t : Tmp} (js : List Nat) (hb : js.all (fun k => dstOf ops k != some t) = true) : (putL ops vals js a0).tmps.getD t undef = a0.tmps.getD t undef := by
  have : ∀ (js : List Nat) (a : Act), js.all (fun k => dstOf ops k != some t) = true → (putL ops vals js a).tmps.getD t undef = a.tmps.getD t undef := by
    intro js
    induction js with
    | nil => intro a _; rfl
    | cons j js ih =>
      intro a h
      rw [List.all_cons, Bool.and_eq_true] at h
      unfold putL
      rw [ih _ h.2, put_other _ _ _ _ (by simpa using h.1)]
  exact this js a0 hb
/-- An operation under a guard that lets it. -/
theorem owes_vt {i : Nat} (k : Nat) (c : Bool) (op : Op) (type : TypeId) (js : List Nat) (ho : (ops[i]?).map (fun o => (o.op, o.type)) = some (op, type)) (hg : (ops[i]?).bind (·.guard) = some (k, c)) (hk : waitsB ops i k = true) (hc : ∀ v w, F k v w → v = .bool c)
    (hsz : ((dstOf ops k).map fun d => decide (d < a0.tmps.size)) = some true) (hsee : seesB ops i js = true) (hnd : callsB op = true) {G : World → World → Prop}
    (yes : ∀ (vals : Nat → Value) (w : World) (ρ : Operand → Value), G w0 w → (∀ j ∈ js, F j (vals j) w) → (∀ t, ρ (.tmp t) = (putL ops vals js a0).tmps.getD t undef) → (∀ c, ρ (.const c) = c) → (∀ f, ρ (.func f) = .func (.func f) #[] #[]) →
      OpV P op type ρ w fun v w' => G w w' ∧ F i v w') : Owes P ops Q G F a0 w0 i := by
  refine owes_vif op type c js ho hg hk hc ?_ ?_ hsee hnd (fun _ => yes) (fun h => absurd rfl h)
  · intro d hd; rw [hd] at hsz; simpa using hsz
  · cases hd : dstOf ops k with
    | none => rw [hd] at hsz; cases hsz
    | some d => rfl
/-- An operation under a guard that does not let it. -/
theorem owes_no {i : Nat} (k : Nat) (c want : Bool) (hne : c ≠ want) (hg : (ops[i]?).bind (·.guard) = some (k, want)) (hk : waitsB ops i k = true) (hc : ∀ v w, F k v w → v = .bool c)
    (hsz : ((dstOf ops k).map fun d => decide (d < a0.tmps.size)) = some true) (hF : ∀ w, F i undef w) : Owes P ops Q (fun w w' => Below w.heap.size w w') F a0 w0 i := by
  cases hi : ops[i]? with
  | none => rw [hi] at hg; cases hg
  | some o =>
    rw [hi] at hg
    intro a w hG hd hs hF' hR
    have hy : yielded ops a.tmps k = some c := by
      have h1 := hc _ _ (hF' k hk)
      unfold valAt at h1
      unfold yielded
      cases hkd : dstOf ops k with
      | none => rw [hkd] at hsz; cases hsz
      | some d =>
        rw [hkd] at hsz h1
        have hl : d < a.tmps.size := by rw [hs]; simpa using hsz
        unfold dstOf at hkd
        rw [hkd]
        simp only [Option.bind_some] at h1 ⊢
        rw [Array.getD_eq_getD_getElem?, Array.getElem?_eq_getElem hl] at h1
        rw [Array.getElem?_eq_getElem hl]
        simp only [Option.getD_some] at h1
        rw [h1]
    unfold wpOp
    rw [hi]
    have hw : Region.wanted o (yielded ops a.tmps) = false := by
      unfold Region.wanted
      rw [show o.guard = some (k, want) from hg]
      simp only [hy]
      cases c <;> cases want <;> simp_all
    simp only [hw, Bool.false_eq_true, if_false]
    exact ⟨undef, by unfold dstOf; rw [hi]; rfl, Below.refl _ _, hF _⟩
end
/-- 'make([]T, n)'. -/
theorem opv_make {P : Program} {α : Type} {f : α → Value} {t e : TypeId} {z : Value} {bytes : Nat} {w : World} {ρ : Operand → Value} {type : TypeId} {R : Value → World → Prop} (one : One P t e z bytes) (zf : α) (hz0 : f zf = z) {l : Operand} {kl : IntKind} {n : Nat} (hl : ρ l = .int kl (n : Int)) (hn : n ≤ 4294967296) (hby : bytes ≤ 32768)
    (h : ∀ w', Ow f e w' w.heap.size (.slice (some ⟨w.heap.size, 0, none⟩) n n) (List.replicate n zf) → Below w.heap.size w w' → R (.slice (some ⟨w.heap.size, 0, none⟩) n n) w') : OpV P (.makeSlice t l l) type ρ w R := by
  obtain ⟨i, hi, hz, hsize, hbytes⟩ := one.info
  have hbb : i.bytes * n ≤ 281474976710656 := by
    rw [hbytes]
    have := Nat.mul_le_mul hby hn
    omega
  obtain ⟨w', hr, ho, hg⟩ := run_make_full (P := P) w w.heap.size t e i z 1 one.under hi hz hsize kl kl n hbb (by simp only [maxLen]; omega) (Nat.le_refl _)
  refine opv_val (v := .slice (some ⟨w.heap.size, 0, none⟩) n n) (w1 := w') ?_ (h w' ?_ ((Below.refl _ _).grown hg (Nat.le_refl _) (by simp)))
  · unfold execOp
    simp only [hl]
    simp only [Sem.run_bind, hr, Result.andThen_ok]
    rfl
  · have e : (madeCells z.cells (n * 1)).toList = (List.replicate n zf).map f := by
      rw [one.cell, toList_madeCells_one, List.map_replicate, hz0, Nat.mul_one]
    rw [e] at ho
    unfold Ow
    rw [List.length_replicate]
    exact ho
/-- The operations of region n. -/
def regOf (n : Nat) : Code → Array Oper
  | .region id ops _ => if id == n then ops else #[]
  | .seq a b => let x := regOf n a; if x.isEmpty then regOf n b else x
  | .cond _ a b => let x := regOf n a; if x.isEmpty then regOf n b else x
  | .block _ c => regOf n c
  | .loop c => regOf n c
  | _ => #[]
def regIn (f : Func) (n : Nat) : Array Oper := regOf n (f.body.getD .skip)
/-- p of n numbers, from k on. -/
def AllN (p : Nat → Prop) : Nat → Nat → Prop
  | 0, _ => True
  | n + 1, k => p k ∧ AllN p n (k + 1)
theorem AllN.at_ {p : Nat → Prop} : ∀ (n k : Nat), AllN p n k → ∀ i, k ≤ i → i < k + n → p i
  | 0, k, _, i, h1, h2 => absurd h2 (by omega)
  | n + 1, k, h, i, h1, h2 => by
    by_cases e : i = k
    · subst e; exact h.1
    · exact AllN.at_ n (k + 1) h.2 i (by omega) (by omega)
def putD (vals : Nat → Value) : List Tmp → Nat → Act → Act
  | [], _, a => a
  | d :: ds, k, a => putD vals ds (k + 1) (a.put (some d) (vals k))
theorem putD_eq {ops : Array Oper} (vals : Nat → Value) : ∀ (ds : List Tmp) (n k : Nat) (a : Act), (List.range' k n).map (dstOf ops) = ds.map some → putL ops vals (List.range' k n) a = putD vals ds k a
  | [], n, k, a, h => by
    have : n = 0 := by simpa using congrArg List.length h
    subst this; rfl
  | d :: ds, 0, k, a, h => by simp at h
  | d :: ds, n + 1, k, a, h => by
    rw [List.range'_succ, List.map_cons, List.map_cons] at h
    injection h with h1 h2
    rw [List.range'_succ]
    unfold putL putD
    rw [h1]
    exact putD_eq vals ds n (k + 1) _ h2
/-- region_facts, by lists. -/
theorem region_by {P : Program} {ops : Array Oper} {Q : Exit → Act → World → Prop} {G : World → World → Prop} {a0 : Act} {w0 : World} {id : Nat} (Fs : List (Value → World → Prop)) (ds : List Tmp)
    (hm : P.follows .mixedOrders = true) (hrefl : G w0 w0.drew) (htrans : ∀ a b c, G a b → G b c → G a c)
    (hreg : regB ops a0.tmps.size = true) (hds : (List.range' 0 ops.size).map (dstOf ops) = ds.map some)
    (hmono : ∀ f ∈ Fs, ∀ v a b, f v a → G a b → f v b)
    (howes : AllN (Owes P ops Q G (fun j => Fs.getD j fun _ _ => True) a0 w0) ops.size 0)
    (fin : ∀ (vals : Nat → Value) (w : World), G w0 w → (∀ j, j < ops.size → (Fs.getD j fun _ _ => True) (vals j) w) → Q .normal (putD vals ds 0 a0) w) :
    (Code.region id ops true).wp P Q a0 w0 := by
  refine region_facts hm hrefl htrans ?_ hreg (fun i hi => howes.at_ _ _ i (by omega) (by omega)) ?_
  · intro j _ v a b h g
    rw [List.getD_eq_getElem?_getD] at h ⊢
    cases hj : Fs[j]? with
    | none => rw [hj] at h; exact trivial
    | some f => rw [hj] at h; exact hmono f (List.mem_of_getElem? hj) v a b h g
  · intro vals w hG hF
    rw [List.range_eq_range', putD_eq vals ds ops.size 0 a0 hds]
    exact fin vals w hG hF
theorem wrapIn {v : Int} (h1 : -9223372036854775808 ≤ v) (h2 : v ≤ 9223372036854775807) : IntKind.i64.wrap v = v := by rw [IntKind.wrap_i64]; omega
/-- The worlds of a region whose operations make memory, and turn none. -/
def Gw (w w' : World) : Prop := Below w.heap.size w w'
theorem Gw.rfl_ (w : World) : Gw w w := Below.refl _ _
theorem Gw.drew (w : World) : Below w.heap.size w w.drew := (Below.refl _ _).drew
theorem Gw.trans (a b c : World) (h : Gw a b) (k : Gw b c) : Gw a c := Below.trans h (Below.mono k h.size)
theorem Gw.alloc (w : World) (o : Obj) : Below w.heap.size w (w.alloc o) := (Below.refl _ _).alloc (Nat.le_refl _) o
/-- A value is c. -/
def IsV (c : Value) (v : Value) (_ : World) : Prop := v = c
/-- A slice that reads as xs. -/
def SlV {α : Type} (f : α → Value) (xs : List α) (v : Value) (w : World) : Prop := ∃ A c, v = .slice A xs.length c ∧ xs.length ≤ c ∧ Rd f w w.heap.size A xs
/-- A slice of one slice, that reads as xs. -/
def Sl1 {α : Type} (f : α → Value) (E : TypeId) (xs : List α) (v : Value) (w : World) : Prop := ∃ g A c, v = .slice (some ⟨g, 0, none⟩) 1 1 ∧ Bk w g E #[.slice A xs.length c] ∧ Rd f w w.heap.size A xs
theorem IsV.mono {c v : Value} {a b : World} (h : IsV c v a) : IsV c v b := h
theorem SlV.mono {α : Type} {f : α → Value} {xs : List α} {v : Value} {a b : World} (h : SlV f xs v a) (g : Gw a b) : SlV f xs v b := by
  obtain ⟨A, c, rfl, hc, hr⟩ := h
  exact ⟨A, c, rfl, hc, (hr.below g).more g.size⟩
theorem Sl1.mono {α : Type} {f : α → Value} {E : TypeId} {xs : List α} {v : Value} {a b : World} (h : Sl1 f E xs v a) (g : Gw a b) : Sl1 f E xs v b := by
  obtain ⟨k, A, c, rfl, hb, hr⟩ := h
  exact ⟨k, A, c, rfl, hb.below g hb.lt, (hr.below g).more g.size⟩
theorem Sl1.of {α : Type} {f : α → Value} {E : TypeId} {xs : List α} {A : Option Addr} {c : Nat} {w : World} (hr : Rd f w w.heap.size A xs) : Sl1 f E xs (.slice (some ⟨w.heap.size, 0, none⟩) 1 1) (w.alloc (.cells #[.slice A xs.length c] E)) :=
  ⟨_, A, c, rfl, Bk.new w E _, (hr.alloc (Nat.le_refl _) _).more (by simp)⟩
end Go.Proofs.YtfodefgihicafaaDoor
/- What the functions of package bits and their twins in loamref1 that only reckon answer, each for every argument. No conditions. -/
namespace Go.Proofs.YtfodefgihicafaaDoor
set_option linter.unusedVariables false
set_option linter.unusedSimpArgs false
open Go.RowKit


def wB (at_ n : Int) : Bool := decide (0 ≤ at_ ∧ at_ ≤ 63 ∧ 1 ≤ n ∧ n ≤ 64 ∧ at_ + n ≤ 64)
def lowB (n : Int) : BitVec 64 := BitVec.allOnes 64 >>> (64 - n).toNat
def fieldB (x : BitVec 64) (at_ n : Int) : BitVec 64 := if wB at_ n then (x >>> at_.toNat) &&& lowB n else 0
def withB (x : BitVec 64) (at_ n : Int) (v : BitVec 64) : BitVec 64 := if wB at_ n then (x &&& ~~~(lowB n <<< at_.toNat)) ||| ((v &&& lowB n) <<< at_.toNat) else x
def turnB (x : BitVec 64) (k : Int) : BitVec 64 := (x <<< (k % 64).toNat) ||| (x >>> (64 - k % 64).toNat)
def signV (x : BitVec 64) (n : Int) : BitVec 64 := (x <<< (64 - n).toNat).sshiftRight (64 - n).toNat
def signB (x : BitVec 64) (n : Int) : BitVec 64 := if 1 ≤ n ∧ n ≤ 64 then signV x n else 0

theorem U64_ones : (18446744073709551615 : Int) = U64 (BitVec.allOnes 64) := by decide +kernel
theorem lowB_nat (n : Int) (h1 : 1 ≤ n) (h2 : n ≤ 64) : (lowB n).toNat = 2 ^ n.toNat - 1 := by
  have h : ∀ k : Fin 65, (BitVec.allOnes 64 >>> (64 - k.val)).toNat = 2 ^ k.val - 1 := by decide +kernel
  have := h ⟨n.toNat, by omega⟩
  unfold lowB
  rw [show (64 - n).toNat = 64 - n.toNat from by omega]
  exact this
theorem mask_lowB (n : Int) (h1 : 1 ≤ n) (h2 : n < 64) : IntKind.u64.wrap (IntKind.u64.wrap (2 ^ n.toNat) - 1) = U64 (lowB n) := by
  have h : ∀ k : Fin 64, (BitVec.ofNat 64 (2 ^ k.val) - 1) = BitVec.allOnes 64 >>> (64 - k.val) := by decide +kernel
  have h3 := h ⟨n.toNat, by omega⟩
  simp only at h3
  rw [wrapu64 (2 ^ n.toNat), show (1 : Int) = U64 1 from by decide +kernel, subU64]
  congr 1
  unfold lowB
  rw [show (64 - n).toNat = 64 - n.toNat from by omega, ← h3]
  rfl
theorem lowB_bit (n : Int) (h1 : 1 ≤ n) (h2 : n ≤ 64) (i : Nat) : (lowB n).getLsbD i = decide (i < n.toNat) := by
  unfold lowB
  simp only [BitVec.getLsbD_ushiftRight, BitVec.getLsbD_allOnes]
  congr 1
  simp; omega

theorem and63 (x : Int) : bits .and .u64 x 63 = x % 64 := by
  show IntKind.u64.wrap ((BitVec.ofInt 64 x &&& BitVec.ofInt 64 63).toNat : Int) = _
  rw [wrapu64, BitVec.ofInt_natCast, BitVec.ofNat_toNat, BitVec.setWidth_eq]
  unfold U64
  rw [BitVec.toNat_and, BitVec.toNat_ofInt, show (BitVec.ofInt 64 63).toNat = 2 ^ 6 - 1 from by decide +kernel, Nat.and_two_pow_sub_one_eq_mod]
  omega

attribute [local go_sem] shlU64 shrU64 andU64 orU64 andNotU64 addU64 subU64 and63

set_option maxHeartbeats 400000
theorem within_c (at_ n : Int) (w : World) : Ans Tryd.prog 87 #[.int .i64 at_, .int .i64 n] w (.bool (wB at_ n)) := by
  unfold Ans
  go_enter Tryd.func87, Tryd.ntmps87
  go_wp2
  all_goals (go_ret; refine ans_bool ?_ (by repeat (first | exact Dn.rfl_ _ | apply Dn.drew | apply Dn.drewN)); unfold wB)
  all_goals first | (rw [Bool.eq_iff_iff]; simp only [decide_eq_true_eq]; omega) | (symm; rw [decide_eq_false_iff_not]; omega)
theorem lowest_c (n : Int) (h1 : 1 ≤ n) (h2 : n ≤ 64) (w : World) : Ans Tryd.prog 88 #[.int .i64 n] w (.int .u64 (U64 (lowB n))) := by
  unfold lowB Ans
  go_enter Tryd.func88, Tryd.ntmps88
  go_wp2
  go_ret
  exact ans_int (by rw [U64_ones, shrU64]) (by repeat (first | exact Dn.rfl_ _ | apply Dn.drew | apply Dn.drewN))
theorem mask_c (n : Int) (h1 : 1 ≤ n) (h2 : n ≤ 64) (w : World) : Ans Tryd.prog 79 #[.int .i64 n] w (.int .u64 (U64 (lowB n))) := by
  unfold Ans
  have hm := mask_lowB n h1
  have H := Lib.hid hm; clear hm
  go_enter Tryd.func79, Tryd.ntmps79
  go_wp2
  all_goals go_ret
  · refine ans_int ?_ (by repeat (first | exact Dn.rfl_ _ | apply Dn.drew | apply Dn.drewN))
    obtain rfl : n = 64 := by omega
    decide +kernel
  · refine ans_int ?_ (by repeat (first | exact Dn.rfl_ _ | apply Dn.drew | apply Dn.drewN))
    exact H.out (by assumption)
theorem wB_out {at_ n : Int} (h : wB at_ n = true) : 0 ≤ at_ ∧ at_ ≤ 63 ∧ 1 ≤ n ∧ n ≤ 64 ∧ at_ + n ≤ 64 := by simpa [wB] using h
theorem field_c (x : BitVec 64) (at_ n : Int) (w : World) : Ans Tryd.prog 89 #[.int .u64 (U64 x), .int .i64 at_, .int .i64 n] w (.int .u64 (U64 (fieldB x at_ n))) := by
  unfold Ans
  by_cases h : wB at_ n = true
  · obtain ⟨h1, h2, h3, h4, h5⟩ := wB_out h
    go_enter Tryd.func89, Tryd.ntmps89
    go_wp2_with (go_at_call 87; refine (within_c _ _ _).go.mono ?_; rintro e w' ⟨rfl, mm, rfl⟩)
    go_quiet ((go_at_call 88; first | exact (lowest_c _ h3 h4 _).q | exact (lowest_c _ h3 h4 _).qa))
    go_wp2
    go_ret
    exact ans_int (congrArg U64 (if_pos h).symm) (by repeat (first | exact Dn.rfl_ _ | apply Dn.drew | apply Dn.drewN))
  · have h' : wB at_ n = false := by simpa using h
    go_enter Tryd.func89, Tryd.ntmps89
    go_wp2_with (go_at_call 87; refine (within_c _ _ _).go.mono ?_; rintro e w' ⟨rfl, mm, rfl⟩)
    go_ret
    exact ans_int ((show (0 : Int) = U64 0 from by decide +kernel).trans (congrArg U64 (if_neg h).symm)) (by repeat (first | exact Dn.rfl_ _ | apply Dn.drew | apply Dn.drewN))
theorem with_c (x : BitVec 64) (at_ n : Int) (v : BitVec 64) (w : World) : Ans Tryd.prog 77 #[.int .u64 (U64 x), .int .i64 at_, .int .i64 n, .int .u64 (U64 v)] w (.int .u64 (U64 (withB x at_ n v))) := by
  unfold Ans
  by_cases h : wB at_ n = true
  · obtain ⟨h1, h2, h3, h4, h5⟩ := wB_out h
    go_enter Tryd.func77, Tryd.ntmps77
    go_wp2_with (first | (go_at_call 87; refine (within_c _ _ _).go.mono ?_; rintro e w' ⟨rfl, mm, rfl⟩) | (go_at_call 88; refine (lowest_c _ h3 h4 _).go.mono ?_; rintro e w' ⟨rfl, mm, rfl⟩))
    go_quiet (fail)
    go_wp2
    go_ret
    exact ans_int (congrArg U64 (if_pos h).symm) (by repeat (first | exact Dn.rfl_ _ | apply Dn.drew | apply Dn.drewN))
  · have h' : wB at_ n = false := by simpa using h
    go_enter Tryd.func77, Tryd.ntmps77
    go_wp2_with (go_at_call 87; refine (within_c _ _ _).go.mono ?_; rintro e w' ⟨rfl, mm, rfl⟩)
    go_ret
    exact ans_int (congrArg U64 (if_neg h).symm) (by repeat (first | exact Dn.rfl_ _ | apply Dn.drew | apply Dn.drewN))
theorem rfield_c (x : BitVec 64) (at_ n : Int) (hr : n ≤ 9223372036854775807) (hr2 : -9223372036854775808 ≤ n) (w : World) : Ans Tryd.prog 70 #[.int .u64 (U64 x), .int .i64 at_, .int .i64 n] w (.int .u64 (U64 (fieldB x at_ n))) := by
  unfold Ans
  by_cases h : wB at_ n = true
  · obtain ⟨h1, h2, h3, h4, h5⟩ := wB_out h
    go_enter Tryd.func70, Tryd.ntmps70
    go_wp2_with (go_at_call 79; refine (mask_c _ h3 h4 _).go.mono ?_; rintro e w' ⟨rfl, mm, rfl⟩)
    go_ret
    exact ans_int (congrArg U64 (if_pos h).symm) (by repeat (first | exact Dn.rfl_ _ | apply Dn.drew | apply Dn.drewN))
  · have h' : ¬ (0 ≤ at_ ∧ at_ ≤ 63 ∧ 1 ≤ n ∧ n ≤ 64 ∧ at_ + n ≤ 64) := by simpa [wB] using h
    go_enter Tryd.func70, Tryd.ntmps70
    go_wp2_with fail
    all_goals try (exfalso; apply h'; omega)
    all_goals go_ret
    all_goals exact ans_int ((show (0 : Int) = U64 0 from by decide +kernel).trans (congrArg U64 (if_neg h).symm)) (by repeat (first | exact Dn.rfl_ _ | apply Dn.drew | apply Dn.drewN))
theorem sub_and_or (w m v : BitVec 64) : w - (w &&& m) + (v &&& m) = (w &&& ~~~m) ||| (v &&& m) := by
  have h1 : w - (w &&& m) = w &&& ~~~m := by
    have h : w = (w &&& m) + (w &&& ~~~m) := by
      rw [BitVec.add_eq_or_of_and_eq_zero]
      · apply BitVec.eq_of_getLsbD_eq; intro i hi; simp; cases w.getLsbD i <;> cases m.getLsbD i <;> simp [hi]
      · apply BitVec.eq_of_getLsbD_eq; intro i hi; simp; cases w.getLsbD i <;> cases m.getLsbD i <;> simp [hi]
    conv => lhs; lhs; rw [h]
    rw [BitVec.add_comm, BitVec.add_sub_cancel]
  rw [h1, BitVec.add_eq_or_of_and_eq_zero]
  apply BitVec.eq_of_getLsbD_eq; intro i hi; simp; cases w.getLsbD i <;> cases m.getLsbD i <;> simp [hi]
theorem rwith_c (x : BitVec 64) (at_ n : Int) (v : BitVec 64) (hr : n ≤ 9223372036854775807) (hr2 : -9223372036854775808 ≤ n) (w : World) : Ans Tryd.prog 67 #[.int .u64 (U64 x), .int .i64 at_, .int .i64 n, .int .u64 (U64 v)] w (.int .u64 (U64 (withB x at_ n v))) := by
  unfold Ans
  by_cases h : wB at_ n = true
  · obtain ⟨h1, h2, h3, h4, h5⟩ := wB_out h
    go_enter Tryd.func67, Tryd.ntmps67
    go_wp2_with (go_at_call 79; refine (mask_c _ h3 h4 _).go.mono ?_; rintro e w' ⟨rfl, mm, rfl⟩)
    go_ret
    refine ans_int ?_ (by repeat (first | exact Dn.rfl_ _ | apply Dn.drew | apply Dn.drewN))
    refine congrArg U64 ?_
    unfold withB
    rw [if_pos h, sub_and_or, BitVec.shiftLeft_and_distrib]
  · have h' : ¬ (0 ≤ at_ ∧ at_ ≤ 63 ∧ 1 ≤ n ∧ n ≤ 64 ∧ at_ + n ≤ 64) := by simpa [wB] using h
    go_enter Tryd.func67, Tryd.ntmps67
    go_wp2_with fail
    all_goals try (exfalso; apply h'; omega)
    all_goals go_ret
    all_goals exact ans_int (congrArg U64 (if_neg h).symm) (by repeat (first | exact Dn.rfl_ _ | apply Dn.drew | apply Dn.drewN))
theorem tmod_64 (k : Int) : IntKind.u64.wrap ((wrap64 (k.tmod 64 + 64)).tmod 64) = k % 64 := by
  have h1 : k.tmod 64 = k - 64 * (k.tdiv 64) := by have := Int.tmod_add_mul_tdiv k 64; omega
  have h2 := Int.tmod_lt_of_pos k (show (0 : Int) < 64 by decide)
  have h3 : -64 < k.tmod 64 := by
    have := Int.lt_tmod_of_pos k (show (0 : Int) < 64 by decide)
    omega
  have h4 : wrap64 (k.tmod 64 + 64) = k.tmod 64 + 64 := by unfold wrap64; omega
  rw [h4, Int.tmod_eq_emod_of_nonneg (by omega)]
  simp [IntKind.wrap, IntKind.bits, IntKind.signed]
  omega
theorem signB_val (x : BitVec 64) (n : Int) (h1 : 1 ≤ n) (h2 : n ≤ 64) : I64 (x <<< (64 - n).toNat) / 2 ^ (64 - n).toNat = I64 (signB x n) := by
  rw [sarI64]; unfold signB; rw [if_pos ⟨h1, h2⟩]; rfl
attribute [local go_sem] u64_i64 i64_u64
theorem signV_bit (x : BitVec 64) (n : Int) (h1 : 1 ≤ n) (h2 : n ≤ 64) (i : Nat) (hi : i < 64) : (signV x n).getLsbD i = x.getLsbD (min i (n.toNat - 1)) := by
  unfold signV
  rw [BitVec.getLsbD_sshiftRight]
  simp only [BitVec.msb_eq_getLsbD_last, BitVec.getLsbD_shiftLeft]
  have a2 : ¬ 64 ≤ i := by omega
  by_cases h : (64 - n).toNat + i < 64
  · have a1 : ¬ (64 - n).toNat + i < (64 - n).toNat := by omega
    rw [if_pos h, show (64 - n).toNat + i - (64 - n).toNat = i from by omega, show min i (n.toNat - 1) = i from by omega]
    simp only [h, a1, a2, decide_true, decide_false, Bool.not_false, Bool.true_and]
  · have a1 : ¬ 64 - 1 < (64 - n).toNat := by omega
    rw [if_neg h, show min i (n.toNat - 1) = 64 - 1 - (64 - n).toNat from by omega]
    simp only [a1, a2, decide_false, Bool.not_false, Bool.true_and, show (64 - 1 < 64) from by decide, decide_true]
theorem ones_sub (y : BitVec 64) : BitVec.allOnes 64 - y = ~~~y := by
  apply BitVec.eq_of_toNat_eq
  have := y.isLt
  rw [BitVec.toNat_sub, BitVec.toNat_not, BitVec.toNat_allOnes]
  omega
theorem and1 (x : BitVec 64) : bits .and .u64 (U64 x) 1 = U64 (x &&& 1) := by
  rw [show (1 : Int) = U64 1 from by decide +kernel, andU64]
theorem bit_one (x : BitVec 64) (k : Nat) : (U64 (x >>> k &&& 1#64) == 1) = x.getLsbD k := by
  rw [show (1 : Int) = U64 1 from by decide +kernel, beqU64, Bool.eq_iff_iff, beq_iff_eq]
  constructor
  · intro h
    have := congrArg (fun y : BitVec 64 => y.getLsbD 0) h
    simpa using this
  · intro h
    apply BitVec.eq_of_getLsbD_eq
    intro i hi
    rcases i with _ | i
    · simpa using h
    · simp
attribute [local go_sem] and1
theorem low64 : lowB 64 = BitVec.allOnes 64 := by decide +kernel
end Go.Proofs.YtfodefgihicafaaDoor
/- What bits.Get, bits.Put and their twins in loamref1 answer, for bytes of at most 2^31. -/
namespace Go.Proofs.YtfodefgihicafaaDoor
set_option linter.unusedVariables false
set_option linter.unusedSimpArgs false
open Go.RowKit

def b8 (x : BitVec 8) : Value := .int .u8 (U8 x)
theorem b8_one (x : BitVec 8) : (b8 x).oneCell' = true := rfl
def leN : List (BitVec 8) → BitVec 64
  | [] => 0
  | b :: r => (leN r <<< 8) ||| b.setWidth 64
theorem leN_snoc (b : BitVec 8) : ∀ l : List (BitVec 8), leN (l ++ [b]) = leN l ||| (b.setWidth 64 <<< (8 * l.length))
  | [] => by simp [leN]
  | a :: l => by
    simp only [List.cons_append, leN, leN_snoc b l, BitVec.shiftLeft_or_distrib, List.length_cons]
    rw [← BitVec.shiftLeft_add, show 8 * l.length + 8 = 8 * (l.length + 1) from by omega, BitVec.or_assoc, BitVec.or_assoc, BitVec.or_comm (BitVec.setWidth 64 a)]
def inB (len at_ n : Int) : Bool := decide (1 ≤ n ∧ n ≤ 8 ∧ 0 ≤ at_ ∧ at_ + n ≤ len)
theorem inB_out {len at_ n : Int} (h : inB len at_ n = true) : 1 ≤ n ∧ n ≤ 8 ∧ 0 ≤ at_ ∧ at_ + n ≤ len := by simpa [inB] using h
theorem inB_no {len at_ n : Int} (h : ¬ inB len at_ n = true) : ¬ (1 ≤ n ∧ n ≤ 8 ∧ 0 ≤ at_ ∧ at_ + n ≤ len) := by simpa [inB] using h
def seg (bs : List (BitVec 8)) (at_ n : Int) : List (BitVec 8) := (bs.drop at_.toNat).take n.toNat
def getB (bs : List (BitVec 8)) (at_ n : Int) : BitVec 64 := if inB bs.length at_ n then leN (seg bs at_ n) else 0
def errB (len at_ n : Int) : Int := if inB len at_ n then 0 else 1
attribute [local go_sem] shlU64 shrU64 andU64 orU64 andNotU64 addU64 subU64 u8_u64
set_option maxHeartbeats 400000
theorem ans_u64err {a b : BitVec 64} {x y : Int} {w w' : World} (h : a = b) (h2 : x = y) (hw : Dn w w') : AnsP (.tuple #[.int .u64 (U64 b), .int .i64 y]) w (.returned (.tuple #[.int .u64 (U64 a), .int .i64 x])) w' := ⟨by rw [h, h2], hw⟩
theorem seg_len (bs : List (BitVec 8)) (at_ n : Nat) (h : at_ + n ≤ bs.length) : (seg bs at_ n).length = n := by simp [seg]; omega
theorem seg_get (bs : List (BitVec 8)) (at_ n k : Nat) (h : at_ + n ≤ bs.length) (hk : k < n) (hk2 : k < (seg bs at_ n).length) : (seg bs at_ n)[k] = bs[at_ + k]'(by omega) := by
  simp [seg]
theorem take_snoc' {α : Type} (l : List α) (k : Nat) (h : k < l.length) : l.take (k + 1) = l.take k ++ [l[k]] := by
  rw [List.take_succ_eq_append_getElem h]
theorem leN_take (bs : List (BitVec 8)) (p n k : Nat) (h : p + n ≤ bs.length) (hk : k < n) :
    leN ((seg bs p n).take (k + 1)) = leN ((seg bs p n).take k) ||| (bs[p + k]'(by omega)).setWidth 64 <<< (8 * k) := by
  have hl := seg_len bs p n h
  rw [take_snoc' _ _ (by omega), leN_snoc, List.length_take, seg_get _ _ _ _ h hk, hl, Nat.min_eq_left (by omega)]
theorem leN_drop (bs : List (BitVec 8)) (p n k : Nat) (h : p + n ≤ bs.length) (hk : k < n) :
    leN ((seg bs p n).drop k) = (leN ((seg bs p n).drop (k + 1)) <<< 8) ||| (bs[p + k]'(by omega)).setWidth 64 := by
  have hl := seg_len bs p n h
  rw [List.drop_eq_getElem_cons (by omega), seg_get _ _ _ _ h hk]
  rfl
theorem val_u64 {a b : Int} (h : a = b) : Value.int .u64 a = Value.int .u64 b := by rw [h]
theorem val_u8 {a b : Int} (h : a = b) : Value.int .u8 a = Value.int .u8 b := by rw [h]
theorem u64_u8m (x : BitVec 64) : U64 x % 256 = U8 (x.setWidth 8) := by
  rw [← u64_u8]; simp [IntKind.wrap, IntKind.bits, IntKind.signed]
theorem one8 : One Tryd.prog 30 5 (.int .u8 0) 1 :=
  ⟨by kernel_rfl, by
    have h : (Tryd.prog.info? 5).map (fun i => (i.zero, i.size, i.bytes)) = some (some (.int .u8 0), 1, 1) := by kernel_rfl
    obtain ⟨i, h1, h2, h3, h4⟩ := info_parts h
    exact ⟨i, h1, h2, h3, h4⟩, rfl⟩
def lowN (v : BitVec 64) (n : Nat) : List (BitVec 8) := (List.range n).map fun i => (v >>> (8 * i)).setWidth 8
theorem lowN_len (v : BitVec 64) (n : Nat) : (lowN v n).length = n := by simp [lowN]
theorem lowN_snoc (v : BitVec 64) (n : Nat) : lowN v (n + 1) = lowN v n ++ [(v >>> (8 * n)).setWidth 8] := by
  simp [lowN, List.range_succ]
/-- What a call that makes a slice of its own leaves. -/
def MkP {α : Type} (f : α → Value) (E : TypeId) (xs : List α) (w : World) (e : Ending) (w' : World) : Prop :=
  ∃ A c, e = .returned (.slice A xs.length c) ∧ xs.length ≤ c ∧ Ow f E w' w.heap.size (.slice A xs.length c) xs ∧ Below w.heap.size w w'
theorem MkP.of {α : Type} {f : α → Value} {E : TypeId} {xs : List α} {w w' : World} {v : Value} (ho : Ow f E w' w.heap.size v xs) (hb : Below w.heap.size w w') : MkP f E xs w (.returned v) w' := by
  obtain ⟨A, c, rfl, hc⟩ := ho.form
  exact ⟨A, c, rfl, hc, ho, hb⟩
def putB (bs : List (BitVec 8)) (at_ n : Int) (v : BitVec 64) : List (BitVec 8) := if inB bs.length at_ n then bs.take at_.toNat ++ (lowN v n.toNat ++ bs.drop (at_.toNat + n.toNat)) else []
/-- What a call that makes a slice of its own, and a number beside it, leaves. -/
def MkEP {α : Type} (f : α → Value) (E : TypeId) (xs : List α) (err : Int) (w : World) (e : Ending) (w' : World) : Prop :=
  ∃ A c, e = .returned (.tuple #[.slice A xs.length c, .int .i64 err]) ∧ xs.length ≤ c ∧ Ow f E w' w.heap.size (.slice A xs.length c) xs ∧ Below w.heap.size w w'
theorem MkEP.of {α : Type} {f : α → Value} {E : TypeId} {xs : List α} {err : Int} {w w' : World} {v : Value} (ho : Ow f E w' w.heap.size v xs) (hb : Below w.heap.size w w') : MkEP f E xs err w (.returned (.tuple #[v, .int .i64 err])) w' := by
  obtain ⟨A, c, rfl, hc⟩ := ho.form
  exact ⟨A, c, rfl, hc, ho, hb⟩
theorem set_mid {α : Type} (a m : List α) (x : α) (l : List α) (p k : Nat) (hp : a.length = p) (hk : m.length = k) (y : α) : (a ++ (m ++ x :: l)).set (p + k) y = a ++ ((m ++ [y]) ++ l) := by
  subst hp; subst hk
  rw [List.set_append_right _ _ (by omega), List.set_append_right _ _ (by omega)]
  simp
end Go.Proofs.YtfodefgihicafaaDoor
/- mem: inside, New, Len. Conditions: 64-bit numbers. -/
namespace Go.Proofs.YtfodefgihicafaaDoor
set_option linter.unusedVariables false
set_option linter.unusedSimpArgs false
open Go.RowKit
def u64v (x : BitVec 64) : Value := .int .u64 (U64 x)
def inM (L at_ n : Int) : Bool := decide (0 ≤ n) && (decide (0 ≤ at_) && (decide (n ≤ L) && decide (at_ ≤ L - n)))
/-- Block g holds words in a row of the call's own. -/
structure MemAt (w : World) (B g : Nat) (v : Value) (ws : List (BitVec 64)) : Prop where
  blk : Bk w g 112 #[v]
  ge : B ≤ g
  row : Ow u64v 68 w B v ws
  ne : v.ownBlock ≠ some g
theorem Rd.grown {α : Type} {f : α → Value} {w w' : World} {row : Option Nat} {A : Option Addr} {xs : List α} (h : Rd f w w.heap.size A xs) (hg : w.grownBy w' row) (ha : ∀ a, A = some a → some a.block ≠ row) : Rd f w' w'.heap.size A xs := fun j hj => by
  obtain ⟨ad, e, hb, hc⟩ := h j hj
  have hs := hg.size
  refine ⟨ad, e, by omega, ?_⟩
  rw [← hc]
  exact World.cell?_of_block (by rw [add_block]; exact hg.block _ hb (ha ad e))
theorem grown_refl (w : World) (row : Option Nat) : w.grownBy w row := ⟨rfl, rfl, rfl, Nat.le_refl _, fun _ _ _ => rfl⟩
theorem grown_set (w : World) (a : Addr) (u : Value) : w.grownBy (w.setCell a u) (some a.block) :=
  ⟨rfl, rfl, rfl, by simp [World.setCell], fun k _ hne => Below.heap_setCell _ _ _ _ (fun e => hne (by rw [e]))⟩
theorem grown_draw {w w' : World} {row : Option Nat} (h : w.grownBy w' row) : w.grownBy w'.drew row := ⟨h.os, h.tape, h.output, h.size, h.block⟩
theorem grown_below {w w' : World} {q B : Nat} (h : w.grownBy w' (some q)) (hB : B ≤ q) (hs : B ≤ w.heap.size) : Below B w w' := below_of_grown h hs (fun k e => by injection e with e; omega)
theorem MemAt.below {w w' : World} {B g : Nat} {v : Value} {ws : List (BitVec 64)} (h : MemAt w B g v ws) (hb : Below w.heap.size w w') : MemAt w' B g v ws := ⟨h.blk.below hb h.blk.lt, h.ge, h.row.below hb, h.ne⟩
theorem MemAt.grown {w w' : World} {row : Option Nat} {B g : Nat} {v : Value} {ws : List (BitVec 64)} (h : MemAt w B g v ws) (hg : w.grownBy w' row) (h1 : some g ≠ row) (h2 : v.ownBlock = none ∨ v.ownBlock ≠ row) : MemAt w' B g v ws := ⟨(hg.block g h.blk.lt h1).trans h.blk, h.ge, h.row.kept hg h2, h.ne⟩
theorem MemAt.le {w : World} {B g : Nat} {v : Value} {ws : List (BitVec 64)} (h : MemAt w B g v ws) : B ≤ w.heap.size := Nat.le_of_lt (Nat.lt_of_le_of_lt h.ge h.blk.lt)
theorem MemAt.own {w w' : World} {B g : Nat} {v : Value} {ws : List (BitVec 64)} (h : MemAt w B g v ws) (hg : w.grownBy w' v.ownBlock) : Below B w w' := below_of_grown hg h.le (fun k e => (h.row.lt k e).1)
theorem grown_none {w w' : World} (h : Below w.heap.size w w') (row : Option Nat) : w.grownBy w' row := ⟨h.os, h.tape, h.output, h.size, fun k hk _ => h.block k hk⟩
set_option maxHeartbeats 400000
theorem insideM_c (w : World) (L at_ n : Int) (hL : 0 ≤ L) (hL2 : L ≤ 1000000) (ha : -9223372036854775808 ≤ at_) (ha2 : at_ ≤ 9223372036854775807) (hn : -9223372036854775808 ≤ n) (hn2 : n ≤ 9223372036854775807) :
    Calls Tryd.prog 63 #[.int .i64 L, .int .i64 at_, .int .i64 n] w fun e w' => e = .returned (.bool (inM L at_ n)) ∧ w' = w := by
  unfold inM
  obtain ⟨r1, t1⟩ : ∃ r, decide (0 ≤ n) = r := ⟨_, rfl⟩
  obtain ⟨r2, t2⟩ : ∃ r, decide (0 ≤ at_) = r := ⟨_, rfl⟩
  obtain ⟨r3, t3⟩ : ∃ r, decide (n ≤ L) = r := ⟨_, rfl⟩
  obtain ⟨r4, t4⟩ : ∃ r, decide (at_ ≤ L - n) = r := ⟨_, rfl⟩
  rw [t1, t2, t3, t4]
  cases r1 <;> cases r2 <;> cases r3
  all_goals
    go_enter Tryd.func63, Tryd.ntmps63
    go_wp2_with fail
    all_goals first
      | (go_ret; exact ⟨rfl, rfl⟩)
      | (go_ret
         have k : wrap64 (L - n) = L - n := by
           have k1 := of_decide_eq_true t1
           have k3 := of_decide_eq_true t3
           unfold wrap64
           omega
         exact ⟨by rw [k, t4]; rfl, rfl⟩)
theorem len_c (w : World) (B g : Nat) (v : Value) (ws : List (BitVec 64)) (h : MemAt w B g v ws) :
    Calls Tryd.prog 64 #[.pointer (some ⟨g, 0, none⟩)] w fun e w' => e = .returned (.int .i64 ws.length) ∧ w' = w := by
  obtain ⟨A, c, e, hc⟩ := h.row.form
  subst e
  have c0 := h.blk.cell 0
  obtain ⟨N, hN⟩ : ∃ N, N = ws.length := ⟨_, rfl⟩
  rw [← hN] at c0 ⊢
  clear hN hc
  go_enter Tryd.func64, Tryd.ntmps64
  go_wp2
  go_ret
  exact ⟨rfl, rfl⟩
/-- What Get answers of words: at a place of theirs. -/
theorem get_in (w : World) (B g : Nat) (v : Value) (ws : List (BitVec 64)) (i : Nat) (hi : i < ws.length) (hl : ws.length ≤ 100000) (h : MemAt w B g v ws) :
    Calls Tryd.prog 28 #[.pointer (some ⟨g, 0, none⟩), .int .i64 i] w fun e w' => e = .returned (.tuple #[.int .u64 (U64 ws[i]), .int .i64 0]) ∧ w' = w := by
  have HL := Lib.hid (len_c w B g v ws h)
  have HI := Lib.hid (insideM_c w (ws.length : Int) (i : Int) 1 (by omega) (by omega) (by omega) (by omega) (by decide) (by decide))
  rw [show inM (ws.length : Int) (i : Int) 1 = true from by unfold inM; simp; omega] at HI
  obtain ⟨A, c, e, hc⟩ := h.row.form
  subst e
  have c0 := h.blk.cell 0
  obtain ⟨ad, rfl, hb, hcell⟩ := h.row.rd i hi
  obtain ⟨x, hx⟩ : ∃ x, x = ws[i] := ⟨_, rfl⟩
  rw [← hx] at hcell ⊢
  unfold u64v at hcell
  obtain ⟨N, hN⟩ : ∃ N, N = ws.length := ⟨_, rfl⟩
  rw [← hN] at c0 hi HL HI
  have p1 : (0 : Int) ≤ (i : Int) := by omega
  have p2 : (i : Int) < (N : Int) := by omega
  clear hN hc hx
  go_enter Tryd.func28, Tryd.ntmps28
  go_wp2_with fail
  refine Calls.mono HL.out ?_
  rintro e w1 ⟨rfl, rfl⟩
  go_wp2_with fail
  refine Calls.mono HI.out ?_
  rintro e w2 ⟨rfl, rfl⟩
  go_wp2_with fail
  go_ret2
  exact ⟨rfl, rfl⟩
theorem get_out (w : World) (B g : Nat) (v : Value) (ws : List (BitVec 64)) (i : Int) (hi : inM (ws.length : Int) i 1 = false) (hl : ws.length ≤ 100000) (ha : -9223372036854775808 ≤ i) (ha2 : i ≤ 9223372036854775807) (h : MemAt w B g v ws) :
    Calls Tryd.prog 28 #[.pointer (some ⟨g, 0, none⟩), .int .i64 i] w fun e w' => e = .returned (.tuple #[.int .u64 0, .int .i64 1]) ∧ w' = w := by
  have HL := Lib.hid (len_c w B g v ws h)
  have HI := Lib.hid (insideM_c w (ws.length : Int) i 1 (by omega) (by omega) ha ha2 (by decide) (by decide))
  rw [hi] at HI
  clear hi
  go_enter Tryd.func28, Tryd.ntmps28
  go_wp2_with fail
  refine Calls.mono HL.out ?_
  rintro e w1 ⟨rfl, rfl⟩
  go_wp2_with fail
  refine Calls.mono HI.out ?_
  rintro e w2 ⟨rfl, rfl⟩
  go_wp2_with fail
  go_ret2
  exact ⟨rfl, rfl⟩
theorem one64 : One Tryd.prog 22 68 (.int .u64 0) 8 :=
  ⟨by kernel_rfl, by
    have h : (Tryd.prog.info? 68).map (fun i => (i.zero, i.size, i.bytes)) = some (some (.int .u64 0), 1, 8) := by kernel_rfl
    obtain ⟨i, h1, h2, h3, h4⟩ := info_parts h
    exact ⟨i, h1, h2, h3, h4⟩, rfl⟩
theorem new_in (w : World) (n : Nat) (hn : n ≤ 8192) :
    Calls Tryd.prog 22 #[.int .i64 n] w fun e w' => ∃ g v, e = .returned (.tuple #[.pointer (some ⟨g, 0, none⟩), .int .i64 0]) ∧ MemAt w' w.heap.size g v (List.replicate n 0#64) ∧ Below w.heap.size w w' := by
  have t1 : decide ((n : Int) < 0) = false := by simp
  have t2 : decide ((8192 : Int) < (n : Int)) = false := by simp; omega
  go_enter Tryd.func22, Tryd.ntmps22
  go_wp2_with (at_make; refine wp_make (f := u64v) one64 rfl _ _ rfl 0#64 rfl w.heap.size n _ _ _ _ rfl rfl rfl rfl (by omega) (by decide) (Nat.le_refl _) ?_; rintro q w2 hq ho2 hb2 _)
  go_ret2
  rw [hq] at ho2
  have hq2 : w.heap.size < w2.heap.size := ho2.ge.2
  have hsz := hb2.size
  refine ⟨w2.heap.size, .slice (some ⟨w.heap.size, 0, none⟩) n n, rfl, ⟨Bk.new w2 _ _, hsz, ho2.alloc _, fun e => ?_⟩, hb2.alloc hsz _⟩
  injection e with e
  have e2 : w.heap.size = w2.heap.size := e
  clear e
  omega
theorem new_out (w : World) (n : Int) (h : n < 0 ∨ 8192 < n) (h1 : -9223372036854775808 ≤ n) (h2 : n ≤ 9223372036854775807) :
    Calls Tryd.prog 22 #[.int .i64 n] w fun e w' => e = .returned (.tuple #[.pointer none, .int .i64 1]) ∧ w' = w := by
  rcases (show n < 0 ∨ (¬ n < 0 ∧ 8192 < n) by omega) with h | ⟨h, h3⟩
  · have t1 : decide (n < 0) = true := by simp [h]
    go_enter Tryd.func22, Tryd.ntmps22
    go_wp2_with fail
    go_ret2
    exact ⟨rfl, rfl⟩
  · have t1 : decide (n < 0) = false := by simp [h]
    have t2 : decide ((8192 : Int) < n) = true := by simp [h3]
    go_enter Tryd.func22, Tryd.ntmps22
    go_wp2_with fail
    go_ret2
    exact ⟨rfl, rfl⟩
end Go.Proofs.YtfodefgihicafaaDoor
