/- Sets of numbers as maps. No conditions. -/
import Derived.Test.YtaminpfgkegibaaMapA
import Derived.Test.YtaminpfgkegibaaHdK
namespace Go.Proofs.Ytaminpfgkegibaa
set_option linter.unusedVariables false
set_option linter.unusedSimpArgs false
open Go.RowKit Go.Maps
def kW (p : Int) : Prop := (Lit.int .i64 p).wf = true
def keyL (p : Int) : Lit := .int .i64 p
theorem keyL_inj {p q : Int} (_ : kW p) (_ : kW q) (h : keyL p = keyL q) : p = q := by
  unfold keyL at h
  injection h
theorem keyL_key {p : Int} (hp : kW p) : WideAt.IsKeyLit (keyL p) := isKey_kI hp
theorem wfI {n : Int} (h1 : -9223372036854775808 ≤ n) (h2 : n ≤ 9223372036854775807) : (Lit.int .i64 n).wf = true := by
  simp [Lit.wf, IntKind.min, IntKind.max, IntKind.signed, IntKind.bits]; omega
/-- Block b is a map whose keys are those of m. -/
def SetI (w : World) (b : Nat) (m : List Int) : Prop := ∃ D : DataW Unit, w.ownsMap Try.prog 3 unitElem b m.length D ∧ size D = m.length ∧ (∀ p, kW p → has D (keyL p) = decide (p ∈ m)) ∧ (∀ p ∈ m, kW p) ∧ m.Nodup
theorem own_tight {P : Program} {k : TypeId} {H : Type} {R : Value → Option (DataW H × List MemPlace)} {w : World} {b n : Nat} {D : DataW H} (h : w.ownsMap P k R b n D) : w.ownsMap P k R b (size D) D := by
  obtain ⟨es, clock, hb, F, hs, rfl⟩ := h
  exact ⟨es, clock, hb, F, by simp [Maps.size, length_sorted], rfl⟩
section
variable {w w' : World} {b : Nat} {m : List (Int)}
theorem SetI.lt (h : SetI w b m) : b < w.heap.size := by obtain ⟨D, h, _⟩ := h; exact h.lt
theorem SetI.kept {S : Nat → Prop} (h : SetI w b m) (hk : Kept S w w') (hn : ¬ S b) : SetI w' b m := by
  obtain ⟨D, h1, h2⟩ := h
  exact ⟨D, hk.map h1 hn, h2⟩
theorem SetI.below (h : SetI w b m) (hb : Below w.heap.size w w') : SetI w' b m := h.kept (Kept.of_below hb (fun _ => False)) (fun f => f)
theorem SetI.made (w : World) : SetI (w.alloc (.map #[] 0)) w.heap.size [] :=
  ⟨.map [], World.ownsMap_made _ _ _ _, rfl, fun p _ => by simp [has], fun _ h => (by cases h), List.nodup_nil⟩
def addS (m : List (Int)) (p : Int) : List (Int) := if p ∈ m then m else m ++ [p]
def offS (m : List (Int)) (p : Int) : List (Int) := m.filter fun q => decide (q ≠ p)
theorem zeroU (w : World) : (zeroValue 166).run Try.prog w = .ok (.agg #[]) w := by kernel_rfl
theorem SetI.put (h : SetI w b m) {p : Int} (hp : kW p) (hn : m.length < maxLen) :
    ∃ w', (Instr.mapUpdate 165 (.map (some b)) (.int .i64 p) (.agg #[])).run Try.prog w = .ok () w' ∧ SetI w' b (addS m p) ∧ Kept (fun c => some b = some c) w w' := by
  obtain ⟨D, h1, h2, h3, h4, h5⟩ := h
  obtain ⟨w', hrun, ho, hg⟩ := World.ownsMap.update h1 lawI Try.underlying165 hn (keyI hp) (unitElem_mk (H := Unit))
  have hT := h1.tidy lawI
  have hsz : size (D.put (keyL p) (.agg [])) = (addS m p).length := by
    rw [size_put hT, h3 p hp, h2]
    unfold addS
    by_cases e : p ∈ m <;> simp [e]
  refine ⟨w', hrun, ⟨_, by rw [← hsz]; exact own_tight ho, hsz, fun q hq => ?_, fun q hq => ?_, ?_⟩, Kept.grown hg⟩
  · by_cases e : q = p
    · subst e
      rw [has_put_same h1.isMap (keyL_key hp)]
      unfold addS
      by_cases e : q ∈ m <;> simp [e]
    · rw [has_put_other (fun k => e (keyL_inj hq hp k)), h3 q hq]
      unfold addS
      by_cases e2 : p ∈ m <;> simp [e2, e]
  · unfold addS at hq
    split at hq
    · exact h4 q hq
    · rcases List.mem_append.1 hq with e | e
      · exact h4 q e
      · rw [List.mem_singleton] at e; subst e; exact hp
  · unfold addS
    split
    · exact h5
    · rename_i e
      exact List.nodup_append.2 ⟨h5, by simp, fun a ha b hb => by simp at hb; subst hb; exact fun e2 => e (e2 ▸ ha)⟩
theorem SetI.del (h : SetI w b m) {p : Int} (hp : kW p) (ty : TypeId) :
    ∃ w', (Builtin.delete_ #[165, 3] ty #[.map (some b), .int .i64 p]).run Try.prog w = .ok (.tuple #[]) w' ∧ SetI w' b (offS m p) ∧ Kept (fun c => some b = some c) w w' := by
  obtain ⟨D, h1, h2, h3, h4, h5⟩ := h
  obtain ⟨w', hrun, ho, hg⟩ := World.ownsMap.drop h1 lawI Try.underlying165 (keyI hp) ty
  have hT := h1.tidy lawI
  have hlen : (offS m p).length + (if p ∈ m then 1 else 0) = m.length := by
    clear h1 h2 h3 h4 ho hT
    unfold offS
    induction m with
    | nil => simp
    | cons q r ih =>
      obtain ⟨hq, hr⟩ := List.nodup_cons.1 h5
      have := ih hr
      rw [List.filter_cons]
      by_cases e : q = p
      · subst e
        simp only [ne_eq, not_true, decide_false, Bool.false_eq_true, if_false, hq] at this ⊢
        simp
        simpa using this
      · simp only [ne_eq, e, not_false_eq_true, decide_true, if_true, List.length_cons, List.mem_cons, show ¬ p = q from fun k => e k.symm, false_or]
        simp only [ne_eq] at this
        omega
  have hsz : size (D.del (keyL p)) = (offS m p).length := by
    have := size_del (k := keyL p) hT
    rw [h3 p hp, h2] at this
    by_cases e : p ∈ m
    · simp [e] at this hlen; omega
    · simp [e] at this hlen; omega
  refine ⟨w', hrun, ⟨_, by rw [← hsz]; exact own_tight ho, hsz, fun q hq => ?_, fun q hq => h4 q ((List.mem_filter.1 hq).1), h5.filter _⟩, Kept.grown hg.grown⟩
  by_cases e : q = p
  · subst e
    rw [has_del_same]
    simp [offS]
  · rw [has_del_other (fun k => e (keyL_inj hq hp k)), h3 q hq]
    simp [offS, e]
theorem SetI.look (h : SetI w b m) {p : Int} (hp : kW p) : (Instr.lookup 165 (.map (some b)) (.int .i64 p) true).run Try.prog w = .ok (.tuple #[.agg #[], .bool (decide (p ∈ m))]) w := by
  obtain ⟨D, h1, h2, h3, h4, h5⟩ := h
  obtain ⟨v, ps, hrun, hR⟩ := h1.look_ok lawI Try.underlying165 (zeroU w) (unitElem_mk (H := Unit)) (keyI hp)
  obtain ⟨rfl, _⟩ := unitElem_inv hR
  have e : has D (kI p) = decide (p ∈ m) := h3 p hp
  rw [hrun, e]
theorem SetI.len (h : SetI w b m) (ty : TypeId) : (Builtin.len_ #[165] ty #[.map (some b)]).run Try.prog w = .ok (.int .i64 m.length) w := by
  obtain ⟨D, h1, h2, h3, h4, h5⟩ := h
  rw [h1.len Try.underlying165 ty, h2]
end
end Go.Proofs.Ytaminpfgkegibaa
