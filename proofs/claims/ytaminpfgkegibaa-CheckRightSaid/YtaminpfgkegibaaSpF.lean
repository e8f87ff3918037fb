/- space: Reset; rows of like objects. Conditions: lengths. -/
import Derived.Test.YtaminpfgkegibaaSpE
namespace Go.Proofs.Ytaminpfgkegibaa
set_option linter.unusedVariables false
set_option linter.unusedSimpArgs false
open Go.RowKit
set_option maxHeartbeats 400000
set_option maxRecDepth 100000
theorem objF_run (ws : List (BitVec 64)) (x : BitVec 64) (n top : Nat) (hgood : ∀ room, n ≤ room → goodX x room = true) (hs : szX x = n) (hn : 1 ≤ n) :
    ∀ r fuel a, top = a + r * n → r ≤ fuel → (∀ j, j < r → ws.getD (a + j * n) 0#64 = x) → ∃ l, objF ws top fuel a = some l ∧ l.length = r
  | 0, fuel, a, ht, _, _ => ⟨[], objF_end ws top fuel a (by omega), rfl⟩
  | r + 1, fuel, a, ht, hf, hx => by
    obtain ⟨f, rfl⟩ : ∃ f, fuel = f + 1 := ⟨fuel - 1, by omega⟩
    have hm : (r + 1) * n = r * n + n := Nat.succ_mul r n
    have hx0 := hx 0 (by omega)
    rw [Nat.zero_mul, Nat.add_zero] at hx0
    obtain ⟨l, h1, h2⟩ := objF_run ws x n top hgood hs hn r f (a + n) (by omega) (by omega) (fun j hj => by
      have h := hx (j + 1) (by omega)
      rw [Nat.succ_mul] at h
      rw [show a + n + j * n = a + (j * n + n) from by omega]
      exact h)
    refine ⟨a :: l, ?_, by simp [h2]⟩
    show (if a < top then _ else _) = _
    rw [if_pos (by omega), hx0, if_pos (hgood _ (by omega)), hs, h1]
    rfl
theorem pack_run {p b : Int} {n : Nat} (hr : rightH p b false 0 = true) (hn : sizeH p b false 0 = (n : Int)) : (∀ room, n ≤ room → goodX (packH p b false 0) room = true) ∧ szX (packH p b false 0) = n := by
  obtain ⟨e1, e2, e3, e4⟩ := un_pack p b false 0 hr
  have hok := ok_pack p b false 0 hr
  have hsz : szX (packH p b false 0) = n := by unfold szX; rw [e1, e2, e3, e4, hn]; rfl
  refine ⟨fun room h => ?_, hsz⟩
  unfold goodX
  rw [hok, e3, hsz]
  simp [h]
theorem allocW_at (ws : List (BitVec 64)) (t n : Nat) (x : BitVec 64) (h : t + n ≤ ws.length) (hn : 1 ≤ n) : (allocW ws t n x).getD t 0#64 = x := by
  unfold allocW
  rw [List.getD_eq_getElem?_getD, zeroW_get _ _ _ _ (by rw [List.length_set]; omega), if_neg (by omega), List.getElem?_set_self (by omega)]
  rfl
theorem allocW_far (ws : List (BitVec 64)) (t n i : Nat) (x : BitVec 64) (h : t + n ≤ ws.length) (hn : 1 ≤ n) (hi : i < t) : (allocW ws t n x).getD i 0#64 = ws.getD i 0#64 := by
  unfold allocW
  rw [List.getD_eq_getElem?_getD, zeroW_get _ _ _ _ (by rw [List.length_set]; omega), if_neg (by omega), List.getElem?_set_ne (by omega), List.getD_eq_getElem?_getD]
theorem of_below {P : Program} {f : FuncId} {args : Array Value} {v : Value} {w : World} (h : Calls P f args w fun r w' => r = .returned v ∧ Below w.heap.size w w') : Calls P f args w fun e w2 => ∃ u, e = .returned u ∧ Below w.heap.size w w2 ∧ IsV v u w2 :=
  h.mono fun _ _ h => ⟨_, h.1, h.2, rfl⟩
end Go.Proofs.Ytaminpfgkegibaa
