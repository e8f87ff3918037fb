/- What the play of both disks says between its steps. No conditions. -/
import Derived.Test.YtfcbmdmkdjaoaaaDkO
import Derived.Test.YtfcbmdmkdjaoaaaMdK
import Derived.Test.YtfcbmdmkdjaoaaaOpenD
import Derived.Test.YtfcbmdmkdjaoaaaFrame
import Derived.Deep.CutRange
import Derived.Deep.Light
import Derived.Deep.CutBlock
import Derived.Laws.Concat
namespace Go.Proofs.Ytfcbmdmkdjaoaaa
set_option linter.unusedVariables false
set_option linter.unusedSimpArgs false
open Go.RowKit Go.Maps
set_option maxRecDepth 100000
set_option maxHeartbeats 4000000
def zS (S : Nat) : List (BitVec 8) := List.replicate S 0#8
/-- The sectors of the document's disk as they are laid. -/
structure Lay (ws : World) (b0 gm S : Nat) (d : DK) (W : World) (gd k : Nat) (kA : Option Addr) (kc : Nat) : Prop where
  bl : Below ws.heap.size ws W
  dx : DiskX ws.heap.size (fun q => q = gm ∨ ∃ a, kA = some a ∧ q = a.block) W gd d
  bk : Bk W gm 33 #[.int .i64 S, .slice kA k kc, .slice none 0 0, .bool false, .bool false, .int .i64 0, .slice none 0 0, .int .i64 0]
  ow : Ow stV 9 W b0 (.slice kA k kc) (List.replicate k (zS S))
  lt : ws.heap.size ≤ gm ∧ gm < b0 ∧ b0 ≤ W.heap.size
theorem DiskX.low {B B' : Nat} {X : Nat → Prop} {W : World} {g : Nat} {d : DK} (h : DiskX B X W g d) (hB : B' ≤ B) : DiskX B' X W g d := by
  obtain ⟨x, h1, h2⟩ := h
  exact ⟨x, h1, fun k e => ⟨Nat.le_trans hB (h2 k e).1, (h2 k e).2⟩⟩
theorem Ow.whole {α : Type} {f : α → Value} {E : TypeId} {w : World} {base q n : Nat} {xs : List α} (h : Ow f E w base (.slice (some ⟨q, 0, none⟩) n n) xs) (hn : n = xs.length) : Bk w q E (xs.map f).toArray := by
  rcases h.2 with ⟨e, _⟩ | ⟨g, cap, cur, e, _, hh, _, _, hs, ht⟩
  · cases e
  · injection e with e1 e2 e3
    injection e1 with e1
    injection e1 with e1
    subst e1 e3
    have hc : cur.toList = xs.map f := by
      rw [← ht, List.take_of_length_le]
      rw [Array.length_toList, hs, hn]
      exact Nat.le_refl _
    unfold Bk
    rw [hh, ← hc]
/-- One act of the play: both disks, the act's block, and the bytes that are to be written. -/
def Rnd (ws : World) (gm gd : Nat) (d : DK) (m : Mod) (ga : Nat) (cs : Array Value) (A : Option Addr) (bs : List (BitVec 8)) (W : World) : Prop := ∃ E : Nat → Prop, Loc ws gm E W gd d m ∧ E ga ∧ Bk W ga 36 cs ∧ Rd b8 W W.heap.size A bs ∧ ∀ a, A = some a → bs ≠ [] → a.block < ws.heap.size ∨ E a.block
theorem Loc.bl {ws W : World} {gm gd : Nat} {E : Nat → Prop} {d : DK} {m : Mod} (h : Loc ws gm E W gd d m) : Below ws.heap.size ws W := by obtain ⟨x, hx⟩ := h; exact hx.bl
theorem keeps_c (w : World) (A : Option Addr) (n c : Nat) (b : Bool) (hb : b = decide ((n : Int) ≤ 300)) : Calls Try.prog 9 #[.slice A n c] w fun e w' => e = .returned (.bool b) ∧ w' = w := by
  subst hb
  go_enter Try.func9, Try.ntmps9
  go_wp2
  go_ret
  exact ⟨rfl, rfl⟩
end Go.Proofs.Ytfcbmdmkdjaoaaa
