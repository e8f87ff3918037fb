/- Names and texts in their order: bytes.Compare as a function; a name stands as its text stands. Pure. No conditions. -/
import Derived.Test.YtdfhdgdhhgabbaaNmZ
import Derived.Lib.Bytealg
namespace Go.Proofs.Ytdfhdgdhhgabbaa
set_option linter.unusedVariables false
set_option linter.unusedSimpArgs false
open Go.RowKit Go.Maps
def byN (k : Nm) : List UInt8 := Lib.bytesOf (k.map U8)
def cmpB : Nm → Nm → Int
  | [], [] => 0
  | [], _ :: _ => -1
  | _ :: _, [] => 1
  | x :: a, y :: b => if x.toNat < y.toNat then -1 else if y.toNat < x.toNat then 1 else cmpB a b
theorem byN_cons (x : BitVec 8) (k : Nm) : byN (x :: k) = UInt8.ofNat x.toNat :: byN k := by
  have h : (U8 x).toNat = x.toNat := by unfold U8; omega
  show UInt8.ofNat (U8 x).toNat :: _ = _
  rw [h]
  rfl
theorem u8lt (x y : BitVec 8) : (UInt8.ofNat x.toNat < UInt8.ofNat y.toNat) ↔ x.toNat < y.toNat := by
  have h1 := x.isLt
  have h2 := y.isLt
  rw [UInt8.lt_iff_toNat_lt]
  simp only [UInt8.toNat_ofNat']
  rw [Nat.mod_eq_of_lt (by omega), Nat.mod_eq_of_lt (by omega)]
theorem cmpB_eq : ∀ a b : Nm, Lib.compareBytes (byN a) (byN b) = cmpB a b
  | [], [] => rfl
  | [], _ :: _ => rfl
  | _ :: _, [] => rfl
  | x :: a, y :: b => by
    rw [byN_cons, byN_cons]
    unfold Lib.compareBytes cmpB
    simp only [u8lt]
    rw [cmpB_eq a b]
theorem cmpB_self : ∀ a : Nm, cmpB a a = 0
  | [] => rfl
  | x :: a => by unfold cmpB; rw [if_neg (by omega), if_neg (by omega), cmpB_self a]
theorem cmpB_neg : ∀ a b : Nm, cmpB a b = - cmpB b a
  | [], [] => rfl
  | [], _ :: _ => rfl
  | _ :: _, [] => rfl
  | x :: a, y :: b => by
    unfold cmpB
    have := cmpB_neg a b
    repeat' split
    all_goals omega
theorem cmpB_zero : ∀ {a b : Nm}, cmpB a b = 0 → a = b
  | [], [], _ => rfl
  | [], _ :: _, h => by unfold cmpB at h; omega
  | _ :: _, [], h => by unfold cmpB at h; omega
  | x :: a, y :: b, h => by
    unfold cmpB at h
    split at h
    · omega
    · split at h
      · omega
      · rw [cmpB_zero h, BitVec.eq_of_toNat_eq (show x.toNat = y.toNat by omega)]
theorem cmpB_trans : ∀ {a b c : Nm}, cmpB a b < 0 → cmpB b c < 0 → cmpB a c < 0
  | [], [], _, h, _ => by unfold cmpB at h; omega
  | [], _ :: _, [], _, h => by unfold cmpB at h; omega
  | [], _ :: _, _ :: _, _, _ => by unfold cmpB; omega
  | _ :: _, [], _, h, _ => by unfold cmpB at h; omega
  | _ :: _, _ :: _, [], _, h => by unfold cmpB at h; omega
  | x :: a, y :: b, z :: c, h1, h2 => by
    unfold cmpB at h1 h2 ⊢
    have := @cmpB_trans a b c
    split at h1 <;> split at h2
    · rw [if_pos (by omega)]; omega
    · split at h2
      · omega
      · rw [if_pos (by omega)]; omega
    · split at h1
      · omega
      · rw [if_pos (by omega)]; omega
    · split at h1
      · omega
      · split at h2
        · omega
        · rw [if_neg (by omega), if_neg (by omega)]; exact this h1 h2
theorem cmpB_ge {a b c : Nm} (h1 : ¬ cmpB a b < 0) (h2 : ¬ cmpB b c < 0) : ¬ cmpB a c < 0 := by
  have e1 := cmpB_neg a b
  have e2 := cmpB_neg b c
  have e3 := cmpB_neg a c
  by_cases z1 : cmpB a b = 0
  · rw [cmpB_zero z1]; exact h2
  · by_cases z2 : cmpB b c = 0
    · rw [← cmpB_zero z2]; exact h1
    · have := @cmpB_trans c b a (by omega) (by omega)
      omega
/-- Texts without a byte 0 stand as their names stand. -/
theorem cmpB_pad : ∀ {a b : Nm} {n m : Nat}, (∀ x ∈ a, x ≠ 0#8) → (∀ x ∈ b, x ≠ 0#8) → a.length + n = b.length + m → cmpB (a ++ List.replicate n 0#8) (b ++ List.replicate m 0#8) = cmpB a b
  | [], [], n, m, _, _, h => by
    have : n = m := by simpa using h
    subst this
    rw [cmpB_self, cmpB_self]
  | [], y :: b, n, m, _, h2, h => by
    have hy := h2 y List.mem_cons_self
    have hy0 : y.toNat ≠ 0 := fun e => hy (BitVec.eq_of_toNat_eq e)
    obtain ⟨n', rfl⟩ : ∃ k, n = k + 1 := ⟨n - 1, by simp at h; omega⟩
    rw [List.nil_append, List.replicate_succ, List.cons_append]
    unfold cmpB
    rw [if_pos (by show 0 < y.toNat; omega)]
  | x :: a, [], n, m, h1, _, h => by
    have hx := h1 x List.mem_cons_self
    have hx0 : x.toNat ≠ 0 := fun e => hx (BitVec.eq_of_toNat_eq e)
    obtain ⟨m', rfl⟩ : ∃ k, m = k + 1 := ⟨m - 1, by simp at h; omega⟩
    rw [List.nil_append, List.replicate_succ, List.cons_append]
    unfold cmpB
    rw [if_neg (by show ¬ x.toNat < 0; omega), if_pos (by show 0 < x.toNat; omega)]
  | x :: a, y :: b, n, m, h1, h2, h => by
    rw [List.cons_append, List.cons_append]
    unfold cmpB
    rw [cmpB_pad (fun z hz => h1 z (List.mem_cons_of_mem _ hz)) (fun z hz => h2 z (List.mem_cons_of_mem _ hz)) (by simp at h; omega)]
end Go.Proofs.Ytdfhdgdhhgabbaa
