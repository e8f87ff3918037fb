/- Stores into boxes that a region makes: the facts, and what such a store owes. No conditions. -/
import Derived.Test.YtbanbpphadgoiaaRegG
import Derived.Test.YtbanbpphadgoiaaHdK
import Derived.Laws.Rows
import Derived.Laws.Tables
namespace Go.Proofs.Ytbanbpphadgoiaa
set_option linter.unusedVariables false
set_option linter.unusedSimpArgs false
open Go.RowKit Go.Maps
/-- A box of n cells of type T, made since B. -/
def BoxV (T : TypeId) (n B : Nat) (v : Value) (w : World) : Prop := ∃ k cs, v = .pointer (some ⟨k, 0, none⟩) ∧ B ≤ k ∧ cs.size = n ∧ Bk w k T cs
/-- A box that holds cs. -/
def BoxC (T : TypeId) (cs : Array Value) (B : Nat) (v : Value) (w : World) : Prop := ∃ k, v = .pointer (some ⟨k, 0, none⟩) ∧ B ≤ k ∧ Bk w k T cs
/-- A store into a box of n cells of type T, made since B. -/
def StD (T : TypeId) (n B : Nat) (a b : World) : Prop := ∃ k cs cs', B ≤ k ∧ cs.size = n ∧ cs'.size = n ∧ Bk a k T cs ∧ Bk b k T cs' ∧ Kept (fun c => c = k) a b
theorem grow_below {w : World} {B g : Nat} (hB : B ≤ g) (cs : Array Value) : Below B w (w.setRow g cs) :=
  ⟨rfl, rfl, rfl, by simp, fun k hk => setRow_other w g k cs (by omega)⟩
section
variable {T T' : TypeId} {n n' B B' : Nat} {cs : Array Value} {v c : Value} {a b : World}
theorem BoxV.mono (h : BoxV T n B v a) (g : Gw a b) : BoxV T n B v b := by
  obtain ⟨k, cs, e, h1, h2, h3⟩ := h
  exact ⟨k, cs, e, h1, h2, h3.below g h3.lt⟩
theorem BoxC.mono (h : BoxC T cs B v a) (g : Gw a b) : BoxC T cs B v b := by
  obtain ⟨k, e, h1, h3⟩ := h
  exact ⟨k, e, h1, h3.below g h3.lt⟩
theorem StD.below {B0 : Nat} {w0 : World} (hB : B0 ≤ B) (h : Below B0 w0 a) (hs : B0 ≤ a.heap.size) (g : StD T n B a b) : Below B0 w0 b := by
  obtain ⟨k, _, _, h1, _, _, _, _, h2⟩ := g
  exact h.trans (h2.below hs (fun c e => by omega))
theorem IsV.st (h : IsV c v a) (_ : StD T n B a b) : IsV c v b := h
theorem bk_type {w : World} {k : Nat} {E F : TypeId} {x y : Array Value} (h1 : Bk w k E x) (h2 : Bk w k F y) : E = F ∧ x = y := by
  unfold Bk at h1 h2
  rw [h1] at h2
  injection h2 with h2
  injection h2 with h2 h3 _
  exact ⟨h3, h2⟩
theorem BoxV.st (h : BoxV T' n' B' v a) (g : StD T n B a b) : BoxV T' n' B' v b := by
  obtain ⟨k, x, e, h1, h2, h3⟩ := h
  obtain ⟨k', y, y', _, g2, g3, g4, g5, g6⟩ := g
  by_cases hk : k = k'
  · subst hk
    obtain ⟨e1, e2⟩ := bk_type h3 g4
    subst e1
    exact ⟨k, y', e, h1, by rw [g3, ← g2, ← e2, h2], g5⟩
  · exact ⟨k, x, e, h1, h2, g6.bk h3 hk⟩
theorem BoxC.st (hT : T' ≠ T) (h : BoxC T' cs B' v a) (g : StD T n B a b) : BoxC T' cs B' v b := by
  obtain ⟨k, e, h1, h3⟩ := h
  obtain ⟨k', y, y', _, g2, g3, g4, g5, g6⟩ := g
  refine ⟨k, e, h1, g6.bk h3 fun hk => ?_⟩
  subst hk
  exact hT (bk_type h3 g4).1
end
def LQ (K : Act → World → Prop) : Exit → Act → World → Prop
  | .normal, a, w => K a w
  | _, _, _ => False
theorem wp_of_list {P : Program} {o : Oper} {a : Act} {w : World} {K : Act → World → Prop} (hg : o.guard = none) (h : wpList P #[o] (LQ K) [o] a w) : Oper.wp P o a w K NoQ := by
  unfold wpList at h
  simp only [Region.wanted, hg, if_true] at h
  rcases h with h | ⟨_, h2⟩
  · unfold Oper.wp at h ⊢
    generalize (execOp a.eval o).run P w = r at *
    cases r with
    | ok n w' =>
      cases n <;> simp only [Oper.upon, wpList] at h ⊢
      case value u => exact h
      case skip => exact h
      case defer u => exact h
      case enter f args =>
        refine Calls.mono h fun e w'' he => ?_
        cases e with
        | returned u => exact he
        | panicked c => exact he.elim
        | outgrown => obtain ⟨_, _, hf⟩ := he; exact hf.elim
      case row row args => exact h
    | halt x w' =>
      cases x <;> simp only [Oper.upon] at h ⊢
      case panic u => exact h.elim
  · obtain ⟨_, _, h3⟩ := h2
    exact h3.elim
section
variable {P : Program} {ops : Array Oper} {Q : Exit → Act → World → Prop} {G : World → World → Prop} {F : Nat → Value → World → Prop} {a0 : Act} {w0 : World} {src : Nat → Nat}
theorem OwesG.mk2 {i : Nat} {D : World → World → Prop} {F' : Nat → Value → World → Prop} (hs0 : src i = i) (hF' : ∀ j v w, (src j = j → F j v w) → F' j v w) (hFi : ∀ v w, F' i v w → F i v w) (h : OwesD P ops Q G D F' a0 w0 i) : OwesG P ops Q G D F src a0 w0 i := by
  intro a w hG hd hs hF hR
  refine wpOp_mono ?_ (h a w hG hd hs (fun j hj => hF' j _ _ (hF j hj)) hR)
  rintro a' w' ⟨v, e, hg, hf⟩
  exact ⟨v, e, hg, by rw [if_pos hs0]; exact hFi _ _ hf⟩
theorem owes_box {i jp jv : Nat} {tp tv : Tmp} {T : TypeId} {n B : Nat} {cs : Array Value} {type : TypeId} (ho : (ops[i]?).map (fun o => (o.op, o.type)) = some (.store T (.tmp tp) (.tmp tv), type)) (hg : (ops[i]?).bind (·.guard) = none) (hdn : dstOf ops i = none)
    (hsee : seesB ops i [jp, jv] = true) (hsp : slotB ops [jp, jv] jp tp = true) (hsv : slotB ops [jp, jv] jv tv = true) (hlp : tp < a0.tmps.size) (hlv : tv < a0.tmps.size) (hs0 : src i ≠ i) (hsi : src i = jp) (h1 : src jp = jp) (h2 : src jv = jv)
    (hi : (P.info? T).map (·.size) = some cs.size) (hn : cs.size = n) (h1c : cs.all (·.oneCell') = true)
    (hFp : ∀ v w, F jp v w → BoxV T n B v w) (hFv : ∀ v w, F jv v w → v = .agg cs) (hFi : ∀ v w, BoxC T cs B v w → F i v w) : OwesG P ops Q G (StD T n B) F src a0 w0 i := by
  obtain ⟨o, e1, e2, e3⟩ := isOp_mk ho
  rw [e1] at hg
  have hd2 : o.dst = none := by unfold dstOf at hdn; rw [e1] at hdn; exact hdn
  refine OwesG.store [jp, jv] e1 hg hd2 hs0 (by rw [hsi]; exact .head _) ?_ hsee (by rw [e2]; trivial) fun vals w hG hF K hK => ?_
  · intro j hj
    simp only [List.mem_cons, List.not_mem_nil, or_false] at hj
    rcases hj with rfl | rfl
    · exact h1
    · exact h2
  · obtain ⟨k, old, ev, hB, hold, hbk⟩ := hFp _ _ (hF jp (by simp))
    have ec := hFv _ _ (hF jv (by simp))
    refine wp_of_list hg ?_
    refine wpList_store_row (rest := []) hg T (.tmp tp) (.tmp tv) e2 k cs ?_ ?_ T old hbk hi (by rw [hold, hn]) h1c ?_
    · show (putL ops vals [jp, jv] a0).tmps.getD tp undef = _
      rw [slotJ [jp, jv] hlp hsp, ev]
    · show (putL ops vals [jp, jv] a0).tmps.getD tv undef = _
      rw [slotJ [jp, jv] hlv hsv, ec]
    · show LQ K .normal _ _
      have hnew := setRow_heap w k old cs T (0, 0) hbk
      refine hK _ _ ⟨k, old, cs, hB, hold, hn, hbk, hnew, ?_⟩ ?_
      · exact ⟨(grow_below (Nat.le_refl _) cs).os, (grow_below (Nat.le_refl _) cs).tape, (grow_below (Nat.le_refl _) cs).output, (grow_below (Nat.le_refl _) cs).size, fun c _ hc => setRow_other w k c cs hc⟩
      · rw [hsi, ev]
        exact hFi _ _ ⟨k, rfl, hB, hnew⟩
end
end Go.Proofs.Ytbanbpphadgoiaa
