/- A region that draws its order, some of whose operations store into boxes that it makes: by a fact for each operation. No conditions. -/
import Derived.Test.YtbanbpphadgoiaaRegL
namespace Go.Proofs.Ytbanbpphadgoiaa
set_option linter.unusedVariables false
set_option linter.unusedSimpArgs false
open Go.RowKit
section
variable {P : Program} {ops : Array Oper} {Q : Exit → Act → World → Prop} {G D : World → World → Prop} {F : Nat → Value → World → Prop} {a0 : Act} {w0 : World} {src : Nat → Nat}
/-- Each operation has a slot of its own, or none; it waits for elder ones alone; none defers. -/
def regGB (ops : Array Oper) (size : Nat) : Bool :=
  (List.range ops.size).all fun i => match ops[i]? with
    | none => false
    | some o =>
      (match o.dst with
       | none => true
       | some d => decide (d < size) && (List.range ops.size).all fun j => j == i || dstOf ops j != some d) &&
      (o.after.all fun e => !Region.binds .any e || decide (e.on < i)) &&
      (match o.op with | .defer _ => false | .select .. => false | _ => true)
def srcB (ops : Array Oper) (src : Nat → Nat) : Bool :=
  (List.range ops.size).all fun i => (src i == i && (dstOf ops i).isSome) || ((dstOf ops i).isNone && waitsB ops i (src i) && (dstOf ops (src i)).isSome)
/-- What operation i owes: its fact, of what it leaves, or of what another has left, and what it turns. -/
def OwesG (P : Program) (ops : Array Oper) (Q : Exit → Act → World → Prop) (G D : World → World → Prop) (F : Nat → Value → World → Prop) (src : Nat → Nat) (a0 : Act) (w0 : World) (i : Nat) : Prop :=
  ∀ (a : Act) (w : World), G w0 w → a.defers = a0.defers → a.tmps.size = a0.tmps.size →
    (∀ j, waitsB ops i j = true → src j = j → F j (valAt ops a j) w) →
    (∀ t, (∀ j, dstOf ops j = some t → waitsB ops j i = true) → a.tmps.getD t undef = a0.tmps.getD t undef) →
    wpOp P ops Q i (fun a' w' => ∃ v, a' = a.put (dstOf ops i) v ∧ D w w' ∧ F i (if src i = i then v else valAt ops a (src i)) w') a w
theorem regGB_at {size : Nat} (h : regGB ops size = true) {i : Nat} (hi : i < ops.size) : ∃ o, ops[i]? = some o ∧ (∀ d, o.dst = some d → d < size ∧ (∀ j, j < ops.size → j ≠ i → dstOf ops j ≠ some d)) ∧ (∀ e ∈ o.after, Region.binds .any e = true → e.on < i) := by
  unfold regGB at h
  rw [List.all_eq_true] at h
  have h1 := h i (List.mem_range.2 hi)
  cases ho : ops[i]? with
  | none => rw [ho] at h1; cases h1
  | some o =>
    rw [ho] at h1
    simp only [Bool.and_eq_true] at h1
    obtain ⟨⟨h1, h2⟩, _⟩ := h1
    refine ⟨o, rfl, fun d hd => ?_, fun e he hb => ?_⟩
    · rw [hd] at h1
      simp only [Bool.and_eq_true, decide_eq_true_eq, List.all_eq_true, List.mem_range, Bool.or_eq_true, beq_iff_eq, bne_iff_ne] at h1
      refine ⟨h1.1, fun j hj hne => ?_⟩
      rcases h1.2 j hj with h | h
      · exact absurd h hne
      · exact h
    · have := Array.all_eq_true_iff_forall_mem.1 h2 e he
      simpa [hb] using this
/-- What operation i owes, at the very state: its fact, of whatever it leaves. -/
def OwesD (P : Program) (ops : Array Oper) (Q : Exit → Act → World → Prop) (G D : World → World → Prop) (F : Nat → Value → World → Prop) (a0 : Act) (w0 : World) (i : Nat) : Prop :=
  ∀ (a : Act) (w : World), G w0 w → a.defers = a0.defers → a.tmps.size = a0.tmps.size →
    (∀ j, waitsB ops i j = true → F j (valAt ops a j) w) →
    (∀ t, (∀ j, dstOf ops j = some t → waitsB ops j i = true) → a.tmps.getD t undef = a0.tmps.getD t undef) →
    wpOp P ops Q i (fun a' w' => ∃ v, a' = a.put (dstOf ops i) v ∧ D w w' ∧ F i v w') a w

/-- An operation that runs whatever comes: by the operations js that it waits for. -/
theorem owes_ofD {i : Nat} {o : Oper} (js : List Nat) (ho : ops[i]? = some o) (hg : o.guard = none) (hsee : seesB ops i js = true)
    (hnd : match o.op with | .defer _ => False | .select .. => False | _ => True)
    (h : ∀ (vals : Nat → Value) (w : World), G w0 w → (∀ j ∈ js, F j (vals j) w) → ∀ K : Act → World → Prop, (∀ v w', D w w' → F i v w' → K ((putL ops vals js a0).put o.dst v) w') →
      Oper.wp P o (putL ops vals js a0) w K NoQ) : OwesD P ops Q G D F a0 w0 i := by
  intro a w hG hd hs hF hR
  unfold wpOp
  rw [ho]
  simp only [Region.wanted, hg, if_true]
  left
  have hsee' : (js.all (fun j => waitsB ops i j) = true) ∧ ∀ t ∈ (o.op.operands.toList.filterMap fun | .tmp t => some t | _ => none), js.any (fun j => dstOf ops j == some t) = true ∨ (List.range ops.size).all (fun j => dstOf ops j != some t || waitsB ops j i) = true := by
    unfold seesB at hsee
    rw [ho] at hsee
    simp only [Bool.and_eq_true, List.all_eq_true, Bool.or_eq_true] at hsee
    refine ⟨by rw [List.all_eq_true]; exact hsee.1, fun t ht => ?_⟩
    rcases hsee.2 t ht with h | h
    · exact .inl h
    · right; rw [List.all_eq_true]; simpa using h
  have hjs : ∀ j ∈ js, waitsB ops i j = true := List.all_eq_true.1 hsee'.1
  have ht : ∀ t ∈ (o.op.operands.toList.filterMap fun | .tmp t => some t | _ => none), a0.tmps.getD t undef = a.tmps.getD t undef ∨ ∃ j ∈ js, dstOf ops j = some t := by
    intro t ht
    rcases hsee'.2 t ht with h | h
    · right
      rw [List.any_eq_true] at h
      obtain ⟨j, hj, e⟩ := h
      exact ⟨j, hj, by simpa using e⟩
    · left
      refine (hR t fun j hj => ?_).symm
      rw [List.all_eq_true] at h
      have hlt : j < ops.size := by
        rcases Nat.lt_or_ge j ops.size with hl | hl
        · exact hl
        · unfold dstOf at hj; rw [Array.getElem?_eq_none hl] at hj; cases hj
      have := h j (List.mem_range.2 hlt)
      simpa [hj] using this
  have he : execOp (putL ops (valAt ops a) js a0).eval o = execOp a.eval o := by
    refine execOp_congr o (fun cs b e => by rw [e] at hnd; exact hnd) fun x hx => ?_
    cases x with
    | tmp t =>
      show (putL ops (valAt ops a) js a0).tmps.getD t undef = a.tmps.getD t undef
      exact putL_at a t js a0 hs.symm (ht t (List.mem_filterMap.2 ⟨.tmp t, by simpa using hx, rfl⟩))
    | _ => rfl
  have hsz : a.tmps.size = (putL ops (valAt ops a) js a0).tmps.size := by rw [putL_size, hs]
  have hdo : dstOf ops i = o.dst := by unfold dstOf; rw [ho]; rfl
  rw [hdo]
  refine wp_same (K1 := fun A' w' => ∃ v, A' = (putL ops (valAt ops a) js a0).put o.dst v ∧ D w w' ∧ F i v w') he hsz hnd ?_ ?_
  · exact h (valAt ops a) w hG (fun j hj => hF j (hjs j hj)) _ (fun v w' g f => ⟨v, rfl, v, rfl, g, f⟩)
  · rintro v w' ⟨v', e, g, f⟩
    exact ⟨v', put_eq e hsz, g, f⟩

/-- An operation under a guard, whose outcome is known. -/
theorem owes_ifD {i k : Nat} {o : Oper} {want : Bool} (c : Bool) (js : List Nat) (ho : ops[i]? = some o) (hg : o.guard = some (k, want)) (hk : waitsB ops i k = true) (hc : ∀ v w, F k v w → v = .bool c)
    (hsz : ∀ d, dstOf ops k = some d → d < a0.tmps.size) (hkd : (dstOf ops k).isSome = true) (hsee : seesB ops i js = true)
    (hnd : match o.op with | .defer _ => False | .select .. => False | _ => True)
    (yes : c = want → ∀ (vals : Nat → Value) (w : World), G w0 w → (∀ j ∈ js, F j (vals j) w) → ∀ K : Act → World → Prop, (∀ v w', D w w' → F i v w' → K ((putL ops vals js a0).put o.dst v) w') →
      Oper.wp P o (putL ops vals js a0) w K NoQ)
    (no : c ≠ want → ∀ w, G w0 w → D w w ∧ F i undef w) : OwesD P ops Q G D F a0 w0 i := by
  intro a w hG hd hs hF hR
  have hy : yielded ops a.tmps k = some c := by
    have h1 := hc _ _ (hF k hk)
    unfold valAt at h1
    unfold yielded
    obtain ⟨d, hd'⟩ := Option.isSome_iff_exists.1 hkd
    have hl := hsz d hd'
    unfold dstOf at hd' h1
    rw [hd'] at h1 ⊢
    simp only [Option.bind_some] at h1 ⊢
    have hl' : d < a.tmps.size := by rw [hs]; exact hl
    rw [Array.getD_eq_getD_getElem?, Array.getElem?_eq_getElem hl'] at h1
    rw [Array.getElem?_eq_getElem hl']
    simp only [Option.getD_some] at h1
    rw [h1]
  have hwant : Region.wanted o (yielded ops a.tmps) = (c == want) := by
    unfold Region.wanted
    rw [hg]
    simp only [hy]
    cases c <;> cases want <;> rfl
  by_cases e : c = want
  · have := owes_ofD (P := P) (ops := ops.setIfInBounds i { o with guard := none }) (Q := Q) (G := G) (D := D) (F := F) (a0 := a0) (w0 := w0) (i := i) (o := { o with guard := none }) js
    unfold wpOp
    rw [ho]
    simp only [hwant, e, beq_self_eq_true, if_true]
    left
    have hsee' : (js.all (fun j => waitsB ops i j) = true) ∧ ∀ t ∈ (o.op.operands.toList.filterMap fun | .tmp t => some t | _ => none), js.any (fun j => dstOf ops j == some t) = true ∨ (List.range ops.size).all (fun j => dstOf ops j != some t || waitsB ops j i) = true := by
      unfold seesB at hsee
      rw [ho] at hsee
      simp only [Bool.and_eq_true, List.all_eq_true, Bool.or_eq_true] at hsee
      refine ⟨by rw [List.all_eq_true]; exact hsee.1, fun t ht => ?_⟩
      rcases hsee.2 t ht with h | h
      · exact .inl h
      · right; rw [List.all_eq_true]; simpa using h
    have hjs : ∀ j ∈ js, waitsB ops i j = true := List.all_eq_true.1 hsee'.1
    have ht : ∀ t ∈ (o.op.operands.toList.filterMap fun | .tmp t => some t | _ => none), a0.tmps.getD t undef = a.tmps.getD t undef ∨ ∃ j ∈ js, dstOf ops j = some t := by
      intro t ht
      rcases hsee'.2 t ht with h | h
      · right
        rw [List.any_eq_true] at h
        obtain ⟨j, hj, e⟩ := h
        exact ⟨j, hj, by simpa using e⟩
      · left
        refine (hR t fun j hj => ?_).symm
        rw [List.all_eq_true] at h
        have hlt : j < ops.size := by
          rcases Nat.lt_or_ge j ops.size with hl | hl
          · exact hl
          · unfold dstOf at hj; rw [Array.getElem?_eq_none hl] at hj; cases hj
        have := h j (List.mem_range.2 hlt)
        simpa [hj] using this
    have he : execOp (putL ops (valAt ops a) js a0).eval o = execOp a.eval o := by
      refine execOp_congr o (fun cs b e => by rw [e] at hnd; exact hnd) fun x hx => ?_
      cases x with
      | tmp t =>
        show (putL ops (valAt ops a) js a0).tmps.getD t undef = a.tmps.getD t undef
        exact putL_at a t js a0 hs.symm (ht t (List.mem_filterMap.2 ⟨.tmp t, by simpa using hx, rfl⟩))
      | _ => rfl
    have hsz' : a.tmps.size = (putL ops (valAt ops a) js a0).tmps.size := by rw [putL_size, hs]
    have hdo : dstOf ops i = o.dst := by unfold dstOf; rw [ho]; rfl
    rw [hdo]
    refine wp_same (K1 := fun A' w' => ∃ v, A' = (putL ops (valAt ops a) js a0).put o.dst v ∧ D w w' ∧ F i v w') he hsz' hnd ?_ ?_
    · exact yes e (valAt ops a) w hG (fun j hj => hF j (hjs j hj)) _ (fun v w' g f => ⟨v, rfl, v, rfl, g, f⟩)
    · rintro v w' ⟨v', e, g, f⟩
      exact ⟨v', put_eq e hsz', g, f⟩
  · have hdo : dstOf ops i = o.dst := by unfold dstOf; rw [ho]; rfl
    unfold wpOp
    rw [ho]
    have hw : (c == want) = false := by rw [beq_eq_false_iff_ne]; exact e
    simp only [hwant, hw, Bool.false_eq_true, if_false]
    rw [hdo]
    obtain ⟨g, f⟩ := no e w hG
    exact ⟨undef, rfl, g, f⟩


theorem owes_vD {i : Nat} (op : Op) (type : TypeId) (js : List Nat) (ho : (ops[i]?).map (fun o => (o.op, o.type)) = some (op, type)) (hg : (ops[i]?).bind (·.guard) = none) (hsee : seesB ops i js = true)
    (hnd : callsB op = true)
    (h : ∀ (vals : Nat → Value) (w : World) (ρ : Operand → Value), G w0 w → (∀ j ∈ js, F j (vals j) w) → (∀ t, ρ (.tmp t) = (putL ops vals js a0).tmps.getD t undef) → (∀ c, ρ (.const c) = c) → (∀ f, ρ (.func f) = .func (.func f) #[] #[]) →
      OpV P op type ρ w fun v w' => D w w' ∧ F i v w') : OwesD P ops Q G D F a0 w0 i := by
  obtain ⟨o, h1, h2, h3⟩ := isOp_mk ho
  subst h2 h3
  rw [h1] at hg
  exact owes_ofD js h1 hg hsee (by revert hnd; cases o.op <;> simp [callsB]) fun vals w hG hF K hK => opv_wp (h vals w (putL ops vals js a0).eval hG hF (fun t => rfl) (fun c => rfl) (fun f => rfl)) fun v w' hr => hK v w' hr.1 hr.2
theorem owes_vifD {i k : Nat} {want : Bool} (op : Op) (type : TypeId) (c : Bool) (js : List Nat) (ho : (ops[i]?).map (fun o => (o.op, o.type)) = some (op, type)) (hg : (ops[i]?).bind (·.guard) = some (k, want)) (hk : waitsB ops i k = true) (hc : ∀ v w, F k v w → v = .bool c)
    (hsz : ∀ d, dstOf ops k = some d → d < a0.tmps.size) (hkd : (dstOf ops k).isSome = true) (hsee : seesB ops i js = true)
    (hnd : callsB op = true)
    (yes : c = want → ∀ (vals : Nat → Value) (w : World) (ρ : Operand → Value), G w0 w → (∀ j ∈ js, F j (vals j) w) → (∀ t, ρ (.tmp t) = (putL ops vals js a0).tmps.getD t undef) → (∀ c, ρ (.const c) = c) → (∀ f, ρ (.func f) = .func (.func f) #[] #[]) →
      OpV P op type ρ w fun v w' => D w w' ∧ F i v w')
    (no : c ≠ want → ∀ w, G w0 w → D w w ∧ F i undef w) : OwesD P ops Q G D F a0 w0 i := by
  obtain ⟨o, h1, h2, h3⟩ := isOp_mk ho
  subst h2 h3
  rw [h1] at hg
  exact owes_ifD c js h1 hg hk hc hsz hkd hsee (by revert hnd; cases o.op <;> simp [callsB]) (fun e vals w hG hF K hK => opv_wp (yes e vals w (putL ops vals js a0).eval hG hF (fun t => rfl) (fun c => rfl) (fun f => rfl)) fun v w' hr => hK v w' hr.1 hr.2) no

/-- A copy of a slot that is as it was. -/
theorem owes_mvD (hD : ∀ w, D w w) {i : Nat} (t : Tmp) {c : Value} (ho : ((ops[i]?).map fun o => copies t o.op) = some true) (hg : (ops[i]?).bind (·.guard) = none) (hsee : seesB ops i [] = true) (hv : a0.tmps.getD t undef = c) (hF : ∀ w, F i c w) :
    OwesD P ops Q G D F a0 w0 i := by
  cases hi : ops[i]? with
  | none => rw [hi] at ho; cases ho
  | some o =>
    rw [hi] at ho
    simp only [Option.map_some, Option.some.injEq] at ho
    refine owes_vD o.op o.type [] (by rw [hi]; rfl) hg hsee (by revert ho; cases o.op <;> simp [copies, callsB]) fun vals w ρ hG hF' hρ hc hf => ?_
    exact opv_val (copies_run ho) ⟨hD _, by rw [hρ t]; show F i (a0.tmps.getD t undef) w; rw [hv]; exact hF w⟩
/-- A copy of what operation j leaves. -/
theorem owes_mvjD (hD : ∀ w, D w w) {i : Nat} (j : Nat) (t : Tmp) (ho : ((ops[i]?).map fun o => copies t o.op) = some true) (hg : (ops[i]?).bind (·.guard) = none) (hsee : seesB ops i [j] = true) (hd : dstOf ops j = some t) (hl : t < a0.tmps.size) (hF : ∀ v w, F j v w → F i v w) :
    OwesD P ops Q G D F a0 w0 i := by
  cases hi : ops[i]? with
  | none => rw [hi] at ho; cases ho
  | some o =>
    rw [hi] at ho
    simp only [Option.map_some, Option.some.injEq] at ho
    refine owes_vD o.op o.type [j] (by rw [hi]; rfl) hg hsee (by revert ho; cases o.op <;> simp [copies, callsB]) fun vals w ρ hG hF' hρ hc hf => ?_
    refine opv_val (copies_run ho) ⟨hD _, ?_⟩
    rw [hρ t]
    unfold putL putL
    rw [hd, put_same _ _ _ hl]
    exact hF _ _ (hF' j (.head _))

/-- An operation under a guard that lets it. -/
theorem owes_vtD {i : Nat} (k : Nat) (c : Bool) (op : Op) (type : TypeId) (js : List Nat) (ho : (ops[i]?).map (fun o => (o.op, o.type)) = some (op, type)) (hg : (ops[i]?).bind (·.guard) = some (k, c)) (hk : waitsB ops i k = true) (hc : ∀ v w, F k v w → v = .bool c)
    (hsz : ((dstOf ops k).map fun d => decide (d < a0.tmps.size)) = some true) (hsee : seesB ops i js = true) (hnd : callsB op = true) {G D : World → World → Prop}
    (yes : ∀ (vals : Nat → Value) (w : World) (ρ : Operand → Value), G w0 w → (∀ j ∈ js, F j (vals j) w) → (∀ t, ρ (.tmp t) = (putL ops vals js a0).tmps.getD t undef) → (∀ c, ρ (.const c) = c) → (∀ f, ρ (.func f) = .func (.func f) #[] #[]) →
      OpV P op type ρ w fun v w' => D w w' ∧ F i v w') : OwesD P ops Q G D F a0 w0 i := by
  refine owes_vifD op type c js ho hg hk hc ?_ ?_ hsee hnd (fun _ => yes) (fun h => absurd rfl h)
  · intro d hd; rw [hd] at hsz; simpa using hsz
  · cases hd : dstOf ops k with
    | none => rw [hd] at hsz; cases hsz
    | some d => rfl
/-- An operation under a guard that does not let it. -/
theorem owes_noD (hD : ∀ w, D w w) {i : Nat} (k : Nat) (c want : Bool) (hne : c ≠ want) (hg : (ops[i]?).bind (·.guard) = some (k, want)) (hk : waitsB ops i k = true) (hc : ∀ v w, F k v w → v = .bool c)
    (hsz : ((dstOf ops k).map fun d => decide (d < a0.tmps.size)) = some true) (hF : ∀ w, F i undef w) : OwesD P ops Q G D F a0 w0 i := by
  cases hi : ops[i]? with
  | none => rw [hi] at hg; cases hg
  | some o =>
    rw [hi] at hg
    intro a w hG hd hs hF' hR
    have hy : yielded ops a.tmps k = some c := by
      have h1 := hc _ _ (hF' k hk)
      unfold valAt at h1
      unfold yielded
      cases hkd : dstOf ops k with
      | none => rw [hkd] at hsz; cases hsz
      | some d =>
        rw [hkd] at hsz h1
        have hl : d < a.tmps.size := by rw [hs]; simpa using hsz
        unfold dstOf at hkd
        rw [hkd]
        simp only [Option.bind_some] at h1 ⊢
        rw [Array.getD_eq_getD_getElem?, Array.getElem?_eq_getElem hl] at h1
        rw [Array.getElem?_eq_getElem hl]
        simp only [Option.getD_some] at h1
        rw [h1]
    unfold wpOp
    rw [hi]
    have hw : Region.wanted o (yielded ops a.tmps) = false := by
      unfold Region.wanted
      rw [show o.guard = some (k, want) from hg]
      simp only [hy]
      cases c <;> cases want <;> simp_all
    simp only [hw, Bool.false_eq_true, if_false]
    exact ⟨undef, by unfold dstOf; rw [hi]; rfl, hD _, hF _⟩

theorem owes_unD (hD : ∀ w, D w w) {i : Nat} (k : Nat) (want : Bool) (hg : (ops[i]?).bind (·.guard) = some (k, want)) (hk : waitsB ops i k = true) (hc : ∀ v w, F k v w → v = undef)
    (hsz : ((dstOf ops k).map fun d => decide (d < a0.tmps.size)) = some true) (hF : ∀ w, F i undef w) : OwesD P ops Q G D F a0 w0 i := by
  cases hi : ops[i]? with
  | none => rw [hi] at hg; cases hg
  | some o =>
    rw [hi] at hg
    intro a w hG hd hs hF' hR
    have hy : yielded ops a.tmps k = none := by
      have h1 := hc _ _ (hF' k hk)
      unfold valAt at h1
      unfold yielded
      cases hkd : dstOf ops k with
      | none => rw [hkd] at hsz; cases hsz
      | some d =>
        rw [hkd] at hsz h1
        have hl : d < a.tmps.size := by rw [hs]; simpa using hsz
        unfold dstOf at hkd
        rw [hkd]
        simp only [Option.bind_some] at h1 ⊢
        rw [Array.getD_eq_getD_getElem?, Array.getElem?_eq_getElem hl] at h1
        rw [Array.getElem?_eq_getElem hl]
        simp only [Option.getD_some] at h1
        rw [h1]
        rfl
    unfold wpOp
    rw [hi]
    have hw : Region.wanted o (yielded ops a.tmps) = false := by
      unfold Region.wanted
      rw [show o.guard = some (k, want) from hg]
      simp only [hy]
      cases want <;> rfl
    simp only [hw, Bool.false_eq_true, if_false]
    exact ⟨undef, by unfold dstOf; rw [hi]; rfl, hD _, hF _⟩

/-- An operation with a slot of its own. -/
theorem OwesG.mk {i : Nat} (hs0 : src i = i) (hsw : ∀ j, waitsB ops i j = true → src j = j) (h : OwesD P ops Q G D F a0 w0 i) : OwesG P ops Q G D F src a0 w0 i := by
  intro a w hG hd hs hF hR
  refine wpOp_mono ?_ (h a w hG hd hs (fun j hj => hF j hj (hsw j hj)) hR)
  rintro a' w' ⟨v, e, hg, hf⟩
  exact ⟨v, e, hg, by rw [if_pos hs0]; exact hf⟩
/-- An operation without a slot, whose fact is of what another has left. -/
theorem OwesG.store {i : Nat} {o : Oper} (js : List Nat) (ho : ops[i]? = some o) (hg : o.guard = none) (hdn : o.dst = none) (hs0 : src i ≠ i) (hmem : src i ∈ js) (hjs : ∀ j ∈ js, src j = j) (hsee : seesB ops i js = true)
    (hnd : match o.op with | .defer _ => False | .select .. => False | _ => True)
    (h : ∀ (vals : Nat → Value) (w : World), G w0 w → (∀ j ∈ js, F j (vals j) w) → ∀ K : Act → World → Prop, (∀ v w', D w w' → F i (vals (src i)) w' → K ((putL ops vals js a0).put o.dst v) w') →
      Oper.wp P o (putL ops vals js a0) w K NoQ) : OwesG P ops Q G D F src a0 w0 i := by
  intro a w hG hd hs hF hR
  unfold wpOp
  rw [ho]
  simp only [Region.wanted, hg, if_true]
  left
  have hsee' : (js.all (fun j => waitsB ops i j) = true) ∧ ∀ t ∈ (o.op.operands.toList.filterMap fun | .tmp t => some t | _ => none), js.any (fun j => dstOf ops j == some t) = true ∨ (List.range ops.size).all (fun j => dstOf ops j != some t || waitsB ops j i) = true := by
    unfold seesB at hsee
    rw [ho] at hsee
    simp only [Bool.and_eq_true, List.all_eq_true, Bool.or_eq_true] at hsee
    refine ⟨by rw [List.all_eq_true]; exact hsee.1, fun t ht => ?_⟩
    rcases hsee.2 t ht with h | h
    · exact .inl h
    · right; rw [List.all_eq_true]; simpa using h
  have hjs2 : ∀ j ∈ js, waitsB ops i j = true := List.all_eq_true.1 hsee'.1
  have ht : ∀ t ∈ (o.op.operands.toList.filterMap fun | .tmp t => some t | _ => none), a0.tmps.getD t undef = a.tmps.getD t undef ∨ ∃ j ∈ js, dstOf ops j = some t := by
    intro t ht
    rcases hsee'.2 t ht with h | h
    · right
      rw [List.any_eq_true] at h
      obtain ⟨j, hj, e⟩ := h
      exact ⟨j, hj, by simpa using e⟩
    · left
      refine (hR t fun j hj => ?_).symm
      rw [List.all_eq_true] at h
      have hlt : j < ops.size := by
        rcases Nat.lt_or_ge j ops.size with hl | hl
        · exact hl
        · unfold dstOf at hj; rw [Array.getElem?_eq_none hl] at hj; cases hj
      have := h j (List.mem_range.2 hlt)
      simpa [hj] using this
  have he : execOp (putL ops (valAt ops a) js a0).eval o = execOp a.eval o := by
    refine execOp_congr o (fun cs b e => by rw [e] at hnd; exact hnd) fun x hx => ?_
    cases x with
    | tmp t =>
      show (putL ops (valAt ops a) js a0).tmps.getD t undef = a.tmps.getD t undef
      exact putL_at a t js a0 hs.symm (ht t (List.mem_filterMap.2 ⟨.tmp t, by simpa using hx, rfl⟩))
    | _ => rfl
  have hsz : a.tmps.size = (putL ops (valAt ops a) js a0).tmps.size := by rw [putL_size, hs]
  have hdo : dstOf ops i = o.dst := by unfold dstOf; rw [ho]; rfl
  rw [hdo]
  refine wp_same (K1 := fun A' w' => ∃ v, A' = (putL ops (valAt ops a) js a0).put o.dst v ∧ D w w' ∧ F i (valAt ops a (src i)) w') he hsz hnd ?_ ?_
  · exact h (valAt ops a) w hG (fun j hj => hF j (hjs2 j hj) (hjs j hj)) _ (fun v w' g f => ⟨v, rfl, v, rfl, g, f⟩)
  · rintro v w' ⟨v', e, g, f⟩
    exact ⟨v', put_eq e hsz, g, by rw [if_neg hs0]; exact f⟩

theorem OwesG.weak {i : Nat} {Pr : World → Prop} (h : OwesG P ops Q G D F src a0 w0 i) : OwesG P ops Q (fun w w' => G w w' ∧ Pr w') D F src a0 w0 i := fun a w hG hd hs hF hR => h a w hG.1 hd hs hF hR
theorem region_factsG {id : Nat} {DD : Nat → World → World → Prop} (Pre : Nat → World → Prop) (hpre0 : ∀ i, i < ops.size → Pre i w0.drew) (hpres : ∀ i k, i < ops.size → k < ops.size → k ≠ i → ∀ a b, G w0 a → Pre k a → DD i a b → Pre k b) (hm : P.follows .mixedOrders = true) (hrefl : G w0 w0.drew) (htrans : ∀ i, i < ops.size → ∀ a b, G w0 a → DD i a b → G w0 b) (hmono : ∀ i j, i < ops.size → j < ops.size → i ≠ j → ∀ v a b, F j v a → DD i a b → F j v b)
    (hreg : regGB ops a0.tmps.size = true) (hsrc : srcB ops src = true) (howes : ∀ i, i < ops.size → OwesG P ops Q (fun w w' => G w w' ∧ Pre i w') (DD i) F src a0 w0 i)
    (fin : ∀ (vals : Nat → Value) (w : World), G w0 w → (∀ j, j < ops.size → F j (vals (src j)) w) → Q .normal (putL ops vals (List.range ops.size) a0) w) :
    (Code.region id ops true).wp P Q a0 w0 := by
  have main : ∀ (fuel : Nat) (listed : Array Bool) (a : Act) (w : World), listed.size = ops.size →
      ((List.range ops.size).filter fun j => !listed.getD j true).length ≤ fuel →
      G w0 w → (∀ j, j < ops.size → listed.getD j true = false → Pre j w) → a.defers = a0.defers → a.tmps.size = a0.tmps.size →
      (∀ j, j < ops.size → listed.getD j true = true → F j (valAt ops a (src j)) w) →
      (∀ t, (∀ j, j < ops.size → listed.getD j true = true → dstOf ops j ≠ some t) → a.tmps.getD t undef = a0.tmps.getD t undef) →
      (∀ j, j < ops.size → listed.getD j true = true → ∀ k, waitsB ops j k = true → listed.getD k false = true) →
      wpAny P .any ops Q fuel listed a w := by
    intro fuel
    -- where nothing may come up all has come up
    have allUp : ∀ (listed : Array Bool), listed.size = ops.size → Region.ready .any ops listed = [] → ∀ j, j < ops.size → listed.getD j true = true := by
      intro listed hsz hr j
      induction j using Nat.strongRecOn with
      | ind j ih =>
        intro hj
        cases hl : listed.getD j true with
        | true => rfl
        | false =>
          exfalso
          obtain ⟨o, ho, _, he⟩ := regGB_at hreg hj
          have : j ∈ Region.ready .any ops listed := mem_ready.2 ⟨hl, o, ho, fun e hem hb => by
            have hlt := he e hem hb
            have := ih e.on hlt (by omega)
            rw [Array.getD_eq_getD_getElem?] at this ⊢
            rw [Array.getElem?_eq_getElem (by omega)] at this ⊢
            exact this⟩
          rw [hr] at this
          cases this
    have done : ∀ (listed : Array Bool) (a : Act) (w : World), (∀ j, j < ops.size → listed.getD j true = true) → G w0 w → a.defers = a0.defers → a.tmps.size = a0.tmps.size →
        (∀ j, j < ops.size → listed.getD j true = true → F j (valAt ops a (src j)) w) →
        (∀ t, (∀ j, j < ops.size → listed.getD j true = true → dstOf ops j ≠ some t) → a.tmps.getD t undef = a0.tmps.getD t undef) → Q .normal a w := by
      intro listed a w hall hG hd hs hF hR
      have := fin (valAt ops a) w hG (fun j hj => hF j hj (hall j hj))
      rw [putL_whole a (List.range ops.size) a0 hs.symm hd.symm] at this
      · exact this
      · intro t
        by_cases e : ∃ j, j < ops.size ∧ dstOf ops j = some t
        · obtain ⟨j, hj, hjd⟩ := e
          exact .inr ⟨j, List.mem_range.2 hj, hjd⟩
        · left
          exact (hR t fun j hj _ he => e ⟨j, hj, he⟩).symm
    induction fuel with
    | zero =>
      intro listed a w hsz hcnt hG hPre hd hs hF hR hC
      have hall : ∀ j, j < ops.size → listed.getD j true = true := by
        intro j hj
        cases hl : listed.getD j true with
        | true => rfl
        | false =>
          have : j ∈ (List.range ops.size).filter fun j => !listed.getD j true := List.mem_filter.2 ⟨List.mem_range.2 hj, by simp only [hl]; rfl⟩
          rw [List.eq_nil_of_length_eq_zero (Nat.le_zero.1 hcnt)] at this
          cases this
      refine ⟨?_, done listed a w hall hG hd hs hF hR⟩
      apply List.eq_nil_iff_forall_not_mem.2
      intro j hj
      obtain ⟨h1, o, ho, _⟩ := mem_ready.1 hj
      have hlt : j < ops.size := (Array.getElem?_eq_some_iff.1 ho).1
      rw [hall j hlt] at h1
      cases h1
    | succ fuel ih =>
      intro listed a w hsz hcnt hG hPre hd hs hF hR hC
      refine ⟨fun hr => done listed a w (allUp listed hsz hr) hG hd hs hF hR, fun i hi => ?_⟩
      obtain ⟨hun, o, ho, hall⟩ := mem_ready.1 hi
      have hlt : i < ops.size := (Array.getElem?_eq_some_iff.1 ho).1
      have hlz : i < listed.size := by omega
      have hw : ∀ j, waitsB ops i j = true → j < ops.size ∧ listed.getD j true = true := by
        intro j hj
        obtain ⟨o', ho', e, he, hb, rfl⟩ := waits_some hj
        rw [ho] at ho'
        injection ho' with ho'
        subst ho'
        have h1 := hall e he hb
        rw [Array.getD_eq_getD_getElem?] at h1
        rcases Nat.lt_or_ge e.on listed.size with hl | hl
        · refine ⟨by omega, ?_⟩
          rw [Array.getD_eq_getD_getElem?]
          rw [Array.getElem?_eq_getElem hl] at h1 ⊢
          exact h1
        · rw [Array.getElem?_eq_none hl] at h1; cases h1
      have hstep := howes i hlt a w ⟨hG, hPre i hlt hun⟩ hd hs (fun j hj hsj => by have h1 := hF j (hw j hj).1 (hw j hj).2; rw [hsj] at h1; exact h1) (fun t ht => hR t fun j hj hl he => by
        have h1 := hC j hj hl i (ht j he)
        rw [Array.getD_eq_getD_getElem?, Array.getElem?_eq_getElem hlz] at h1 hun
        simp only [Option.getD_some] at h1 hun
        rw [h1] at hun; cases hun)
      refine wpOp_mono ?_ hstep
      rintro a' w' ⟨v, rfl, hg, hf⟩
      have hset : ∀ j b, (listed.setIfInBounds i true).getD j b = if j = i then true else listed.getD j b := by
        intro j b
        rw [Array.getD_eq_getD_getElem?, Array.getD_eq_getD_getElem?, Array.getElem?_setIfInBounds]
        by_cases e : i = j
        · subst e; simp [hlz]
        · rw [if_neg e, if_neg (fun h => e h.symm)]
      obtain ⟨o2, ho2, hd2, _⟩ := regGB_at hreg hlt
      have hdo : dstOf ops i = o2.dst := by unfold dstOf; rw [ho2]; rfl
      have hput : ∀ k, k < ops.size → k ≠ i → valAt ops (a.put (dstOf ops i) v) k = valAt ops a k := by
        intro k hk hne
        unfold valAt
        cases hkd : dstOf ops k with
        | none => rfl
        | some dk =>
          simp only
          refine put_other _ _ _ _ fun h => ?_
          exact (hd2 dk (by rw [← hdo]; exact h)).2 k hk hne hkd
      have hsr : ∀ k, k < ops.size → (src k = k ∧ (dstOf ops k).isSome = true) ∨ (dstOf ops k = none ∧ waitsB ops k (src k) = true ∧ (dstOf ops (src k)).isSome = true) := by
        intro k hk
        unfold srcB at hsrc
        rw [List.all_eq_true] at hsrc
        have := hsrc k (List.mem_range.2 hk)
        simp only [Bool.or_eq_true, Bool.and_eq_true, beq_iff_eq, Option.isNone_iff_eq_none] at this
        rcases this with h | h
        · exact .inl h
        · exact .inr ⟨h.1.1, h.1.2, h.2⟩
      refine ih (listed.setIfInBounds i true) (a.put (dstOf ops i) v) w' (by simp [hsz]) ?_ (htrans i hlt _ _ hG hg) (fun j hj hl => by
        by_cases e : j = i
        · rw [hset, if_pos e] at hl; cases hl
        · rw [hset, if_neg e] at hl
          exact hpres i j hlt hj e _ _ hG (hPre j hj hl) hg) (by rw [← hd]; cases dstOf ops i <;> rfl) (by rw [put_size, hs]) ?_ ?_ ?_
      · have := filter_less (p := fun j => !listed.getD j true) (q := fun j => !(listed.setIfInBounds i true).getD j true) (i := i) (l := List.range ops.size) (fun x hx => by
          rw [hset] at hx
          by_cases e : x = i
          · rw [if_pos e] at hx; cases hx
          · rw [if_neg e] at hx; exact hx) (List.mem_range.2 hlt) (by rw [hun]; rfl) (by rw [hset, if_pos rfl]; rfl)
        omega
      · intro j hj hl
        by_cases e : j = i
        · subst e
          rcases hsr j hj with ⟨h1, h2⟩ | ⟨h1, h2, h3⟩
          · rw [if_pos h1] at hf
            rw [h1]
            obtain ⟨d, hdj⟩ := Option.isSome_iff_exists.1 h2
            have h3 : valAt ops (a.put (dstOf ops j) v) j = v := by
              unfold valAt
              rw [hdj]
              simp only
              exact put_same _ _ _ (by rw [hs]; exact (hd2 d (by rw [← hdo]; exact hdj)).1)
            rw [h3]
            exact hf
          · have hne : src j ≠ j := fun e => by rw [e, h1] at h3; cases h3
            rw [if_neg hne] at hf
            rw [hput _ (hw _ h2).1 hne]
            exact hf
        · rw [hset, if_neg e] at hl
          have h1 := hmono i j hlt hj (fun h => e h.symm) _ _ _ (hF j hj hl) hg
          have hne : src j ≠ i ∧ src j < ops.size := by
            rcases hsr j hj with ⟨h2, _⟩ | ⟨_, h2, h3⟩
            · rw [h2]; exact ⟨e, hj⟩
            · constructor
              · intro h
                have h4 := hC j hj hl _ h2
                rw [h, Array.getD_eq_getD_getElem?, Array.getElem?_eq_getElem hlz] at h4
                rw [Array.getD_eq_getD_getElem?, Array.getElem?_eq_getElem hlz] at hun
                simp only [Option.getD_some] at h4 hun
                rw [h4] at hun; cases hun
              · rcases Nat.lt_or_ge (src j) ops.size with h | h
                · exact h
                · unfold dstOf at h3; rw [Array.getElem?_eq_none h] at h3; cases h3
          rw [hput _ hne.2 hne.1]
          exact h1
      · intro t ht
        have h1 : dstOf ops i ≠ some t := fun h => ht i hlt (by rw [hset, if_pos rfl]) h
        rw [put_other _ _ _ _ h1]
        exact hR t fun j hj hl => ht j hj (by rw [hset]; split <;> simp_all)
      · intro j hj hl k hk
        rw [hset]
        by_cases e : k = i
        · rw [if_pos e]
        · rw [if_neg e]
          by_cases e2 : j = i
          · subst e2
            have h1 := (hw k hk)
            have h2 : k < listed.size := by omega
            have h3 := h1.2
            rw [Array.getD_eq_getD_getElem?, Array.getElem?_eq_getElem h2] at h3 ⊢
            exact h3
          · rw [hset, if_neg e2] at hl
            exact hC j hj hl k hk
  refine wp_region_any hm ?_
  refine main ops.size (Array.replicate ops.size false) a0 w0.drew (by simp) ?_ hrefl (fun j hj _ => hpre0 j hj) rfl rfl ?_ ?_ ?_
  · exact Nat.le_trans (List.length_filter_le _ _) (by simp)
  · intro j hj hl
    rw [Array.getD_eq_getD_getElem?, Array.getElem?_eq_getElem (by simpa using hj)] at hl
    simp at hl
  · intro t _; rfl
  · intro j hj hl
    rw [Array.getD_eq_getD_getElem?, Array.getElem?_eq_getElem (by simpa using hj)] at hl
    simp at hl
def putO (vals : Nat → Value) : List (Option Tmp) → Nat → Act → Act
  | [], _, a => a
  | d :: ds, k, a => putO vals ds (k + 1) (a.put d (vals k))
theorem putO_eq {ops : Array Oper} (vals : Nat → Value) : ∀ (ds : List (Option Tmp)) (n k : Nat) (a : Act), (List.range' k n).map (dstOf ops) = ds → putL ops vals (List.range' k n) a = putO vals ds k a
  | [], n, k, a, h => by
    have : n = 0 := by simpa using congrArg List.length h
    subst this; rfl
  | d :: ds, 0, k, a, h => by simp at h
  | d :: ds, n + 1, k, a, h => by
    rw [List.range'_succ, List.map_cons] at h
    injection h with h1 h2
    rw [List.range'_succ]
    unfold putL putO
    rw [h1]
    exact putO_eq vals ds n (k + 1) _ h2
def relOf (sts : List (Nat × (World → World → Prop))) (i : Nat) : World → World → Prop := match sts.find? (fun p => p.1 == i) with
  | some p => p.2
  | none => Gw
def srcOf (ss : List (Nat × Nat)) (i : Nat) : Nat := match ss.find? (fun p => p.1 == i) with
  | some p => p.2
  | none => i
theorem region_byG {id : Nat} (Fs : List (Value → World → Prop)) (sts : List (Nat × (World → World → Prop))) (ss : List (Nat × Nat)) (ds : List (Option Tmp))
    (hm : P.follows .mixedOrders = true)
    (hreg : regGB ops a0.tmps.size = true) (hsrc : srcB ops (srcOf ss) = true) (hds : (List.range' 0 ops.size).map (dstOf ops) = ds)
    (hpure : ∀ f ∈ Fs, ∀ v a b, f v a → Gw a b → f v b)
    (hst : ∀ p ∈ sts, (∀ a b, Below w0.heap.size w0 a → p.2 a b → Below w0.heap.size w0 b) ∧ ∀ f ∈ Fs.eraseIdx p.1, ∀ v a b, f v a → p.2 a b → f v b)
    (howes : AllN (fun i => OwesG P ops Q (fun w w' => Below w.heap.size w w') (relOf sts i) (fun j => Fs.getD j fun _ _ => True) (srcOf ss) a0 w0 i) ops.size 0)
    (fin : ∀ (vals : Nat → Value) (w : World), Below w0.heap.size w0 w → (∀ j, j < ops.size → (Fs.getD j fun _ _ => True) (vals (srcOf ss j)) w) → Q .normal (putO vals ds 0 a0) w) :
    (Code.region id ops true).wp P Q a0 w0 := by
  have hrel : ∀ i, relOf sts i = Gw ∨ ∃ p ∈ sts, p.1 = i ∧ relOf sts i = p.2 := by
    intro i
    unfold relOf
    cases h : sts.find? (fun p => p.1 == i) with
    | none => exact .inl rfl
    | some p => exact .inr ⟨p, List.mem_of_find?_eq_some h, by have := List.find?_some h; simpa using this, rfl⟩
  refine region_factsG (G := fun w w' => Below w.heap.size w w') (DD := relOf sts) (src := srcOf ss) (fun _ _ => True) (fun _ _ => trivial) (fun _ _ _ _ _ _ _ _ _ _ => trivial) hm (Gw.drew _) ?_ ?_ hreg hsrc (fun i hi => (howes.at_ _ _ i (by omega) (by omega)).weak) ?_
  · intro i _ a b hG hD
    rcases hrel i with h | ⟨p, hp, _, h⟩
    · rw [h] at hD; exact hG.trans (Below.mono hD hG.size)
    · rw [h] at hD; exact (hst p hp).1 a b hG hD
  · intro i j _ _ hne v a b h g
    rw [List.getD_eq_getElem?_getD] at h ⊢
    cases hj : Fs[j]? with
    | none => exact trivial
    | some f =>
      rw [hj] at h
      rcases hrel i with hr | ⟨p, hp, e, hr⟩
      · rw [hr] at g; exact hpure f (List.mem_of_getElem? hj) v a b h g
      · rw [hr] at g
        refine (hst p hp).2 f ?_ v a b h g
        rw [e]
        refine List.mem_eraseIdx_iff_getElem?.2 ⟨j, fun h => hne h.symm, hj⟩
  · intro vals w hG hF
    rw [List.range_eq_range', putO_eq vals ds ops.size 0 a0 hds]
    exact fin vals w hG hF
/-- As region_byG, with any relation to the start. -/
theorem region_byK {id : Nat} (Fs : List (Value → World → Prop)) (sts : List (Nat × (World → World → Prop))) (ss : List (Nat × Nat)) (ds : List (Option Tmp))
    (G0 : World → Prop) (hm : P.follows .mixedOrders = true) (hd0 : G0 w0.drew) (hpg : ∀ a b, G0 a → Gw a b → G0 b) (mt : Nat) (Pre : World → Prop) (hp0 : Pre w0.drew) (hpp : ∀ a b, Pre a → Gw a b → Pre b) (hmt : ∀ p ∈ sts, p.1 = mt)
    (hreg : regGB ops a0.tmps.size = true) (hsrc : srcB ops (srcOf ss) = true) (hds : (List.range' 0 ops.size).map (dstOf ops) = ds)
    (hpure : ∀ f ∈ Fs, ∀ v a b, f v a → Gw a b → f v b)
    (hst : ∀ p ∈ sts, (∀ a b, G0 a → p.2 a b → G0 b) ∧ ∀ f ∈ Fs.eraseIdx p.1, ∀ v a b, f v a → p.2 a b → f v b)
    (howes : AllN (fun i => OwesG P ops Q (fun _ w' => G0 w' ∧ (if i = mt then Pre w' else True)) (relOf sts i) (fun j => Fs.getD j fun _ _ => True) (srcOf ss) a0 w0 i) ops.size 0)
    (fin : ∀ (vals : Nat → Value) (w : World), G0 w → (∀ j, j < ops.size → (Fs.getD j fun _ _ => True) (vals (srcOf ss j)) w) → Q .normal (putO vals ds 0 a0) w) :
    (Code.region id ops true).wp P Q a0 w0 := by
  have hrel : ∀ i, relOf sts i = Gw ∨ ∃ p ∈ sts, p.1 = i ∧ relOf sts i = p.2 := by
    intro i
    unfold relOf
    cases h : sts.find? (fun p => p.1 == i) with
    | none => exact .inl rfl
    | some p => exact .inr ⟨p, List.mem_of_find?_eq_some h, by have := List.find?_some h; simpa using this, rfl⟩
  refine region_factsG (G := fun _ w' => G0 w') (DD := relOf sts) (src := srcOf ss) (fun i w => if i = mt then Pre w else True) (fun i _ => by by_cases e : i = mt; rw [if_pos e]; exact hp0; rw [if_neg e]; trivial) (fun i k _ _ hne a b _ h g => by
    by_cases e : k = mt
    · rw [if_pos e] at h ⊢
      rcases hrel i with hr | ⟨p, hp, e2, hr⟩
      · rw [hr] at g; exact hpp a b h g
      · exact absurd ((hmt p hp).symm.trans e2) (fun h2 => hne (e.trans h2))
    · rw [if_neg e]; trivial) hm hd0 ?_ ?_ hreg hsrc (fun i hi => howes.at_ _ _ i (by omega) (by omega)) ?_
  · intro i _ a b hG hD
    rcases hrel i with h | ⟨p, hp, _, h⟩
    · rw [h] at hD; exact hpg a b hG hD
    · rw [h] at hD; exact (hst p hp).1 a b hG hD
  · intro i j _ _ hne v a b h g
    rw [List.getD_eq_getElem?_getD] at h ⊢
    cases hj : Fs[j]? with
    | none => exact trivial
    | some f =>
      rw [hj] at h
      rcases hrel i with hr | ⟨p, hp, e, hr⟩
      · rw [hr] at g; exact hpure f (List.mem_of_getElem? hj) v a b h g
      · rw [hr] at g
        refine (hst p hp).2 f ?_ v a b h g
        rw [e]
        refine List.mem_eraseIdx_iff_getElem?.2 ⟨j, fun h => hne h.symm, hj⟩
  · intro vals w hG hF
    rw [List.range_eq_range', putO_eq vals ds ops.size 0 a0 hds]
    exact fin vals w hG hF
/-- A value, and what holds of the world. -/
def AndV (c : Value) (P : World → Prop) (v : Value) (w : World) : Prop := v = c ∧ P w
theorem AndV.mono {c v : Value} {P : World → Prop} {a b : World} (hP : ∀ a b, P a → Gw a b → P b) (h : AndV c P v a) (g : Gw a b) : AndV c P v b := ⟨h.1, hP a b h.2 g⟩
end
end Go.Proofs.Ytbanbpphadgoiaa
