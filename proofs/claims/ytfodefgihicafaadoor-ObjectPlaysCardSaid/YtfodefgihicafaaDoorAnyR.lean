/- The last region of SumsAny. Conditions: lengths. -/
import Derived.Test.YtfodefgihicafaaDoorCrcF
import Derived.Test.YtfodefgihicafaaDoorOpenP
namespace Go.Proofs.YtfodefgihicafaaDoor
set_option linter.unusedVariables false
set_option linter.unusedSimpArgs false
open Go.RowKit
theorem of_ret {P : Program} {f : FuncId} {args : Array Value} {v : Value} {w : World} (h : Calls P f args w (RetP v w)) : Calls P f args w fun e w2 => ∃ u, e = .returned u ∧ Below w.heap.size w w2 ∧ IsV v u w2 :=
  h.mono fun _ _ h => ⟨_, h.1, h.2, rfl⟩
theorem of_mk {P : Program} {g : FuncId} {args : Array Value} {α : Type} {f : α → Value} {E : TypeId} {xs : List α} {w : World} (h : Calls P g args w (MkP f E xs w)) : Calls P g args w fun e w2 => ∃ u, e = .returned u ∧ Below w.heap.size w w2 ∧ SlV f xs u w2 :=
  h.mono fun e w2 h => by
    obtain ⟨A, c, rfl, hc, ho, hb⟩ := h
    exact ⟨_, rfl, hb, A, c, rfl, hc, ho.rd⟩
theorem rightL_seal (zs : List (BitVec 8)) : rightL (sealC zs) = true := by
  have hn : (sealC zs).length = zs.length + 4 := by simp [sealC, tailL]
  rw [rightL_yes _ (by omega), hn, Nat.add_sub_cancel]
  unfold sealC
  rw [List.take_left, List.drop_left]
  simp
theorem conv_sl {xs : List (BitVec 8)} {v : Value} {w : World} (h : SlV b8 xs v w) : (convert 30 9 v).run Tryd.prog w = .ok (.string (strB xs)) w := by
  obtain ⟨A, c, rfl, _, hr⟩ := h
  exact str_conv xs A c _ w hr
set_option maxRecDepth 100000
set_option maxHeartbeats 400000
end Go.Proofs.YtfodefgihicafaaDoor
