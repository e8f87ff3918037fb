/- What bits.Get, bits.Put and their twins in loamref1 answer, for bytes of at most 2^31. -/
import Derived.Test.YtdfhdgdhhgabbaaBitsA
import Derived.Test.YtdfhdgdhhgabbaaMem
import Derived.LoopTactic
namespace Go.Proofs.Ytdfhdgdhhgabbaa
set_option linter.unusedVariables false
set_option linter.unusedSimpArgs false
open Go.RowKit

def b8 (x : BitVec 8) : Value := .int .u8 (U8 x)
theorem b8_one (x : BitVec 8) : (b8 x).oneCell' = true := rfl
def leN : List (BitVec 8) → BitVec 64
  | [] => 0
  | b :: r => (leN r <<< 8) ||| b.setWidth 64
theorem leN_snoc (b : BitVec 8) : ∀ l : List (BitVec 8), leN (l ++ [b]) = leN l ||| (b.setWidth 64 <<< (8 * l.length))
  | [] => by simp [leN]
  | a :: l => by
    simp only [List.cons_append, leN, leN_snoc b l, BitVec.shiftLeft_or_distrib, List.length_cons]
    rw [← BitVec.shiftLeft_add, show 8 * l.length + 8 = 8 * (l.length + 1) from by omega, BitVec.or_assoc, BitVec.or_assoc, BitVec.or_comm (BitVec.setWidth 64 a)]
def inB (len at_ n : Int) : Bool := decide (1 ≤ n ∧ n ≤ 8 ∧ 0 ≤ at_ ∧ at_ + n ≤ len)
theorem inB_out {len at_ n : Int} (h : inB len at_ n = true) : 1 ≤ n ∧ n ≤ 8 ∧ 0 ≤ at_ ∧ at_ + n ≤ len := by simpa [inB] using h
theorem inB_no {len at_ n : Int} (h : ¬ inB len at_ n = true) : ¬ (1 ≤ n ∧ n ≤ 8 ∧ 0 ≤ at_ ∧ at_ + n ≤ len) := by simpa [inB] using h
def seg (bs : List (BitVec 8)) (at_ n : Int) : List (BitVec 8) := (bs.drop at_.toNat).take n.toNat
def getB (bs : List (BitVec 8)) (at_ n : Int) : BitVec 64 := if inB bs.length at_ n then leN (seg bs at_ n) else 0
def errB (len at_ n : Int) : Int := if inB len at_ n then 0 else 1
attribute [local go_sem] shlU64 shrU64 andU64 orU64 andNotU64 addU64 subU64 u8_u64
set_option maxHeartbeats 400000
theorem ans_u64err {a b : BitVec 64} {x y : Int} {w w' : World} (h : a = b) (h2 : x = y) (hw : Dn w w') : AnsP (.tuple #[.int .u64 (U64 b), .int .i64 y]) w (.returned (.tuple #[.int .u64 (U64 a), .int .i64 x])) w' := ⟨by rw [h, h2], hw⟩
theorem seg_len (bs : List (BitVec 8)) (at_ n : Nat) (h : at_ + n ≤ bs.length) : (seg bs at_ n).length = n := by simp [seg]; omega
theorem seg_get (bs : List (BitVec 8)) (at_ n k : Nat) (h : at_ + n ≤ bs.length) (hk : k < n) (hk2 : k < (seg bs at_ n).length) : (seg bs at_ n)[k] = bs[at_ + k]'(by omega) := by
  simp [seg]
theorem take_snoc' {α : Type} (l : List α) (k : Nat) (h : k < l.length) : l.take (k + 1) = l.take k ++ [l[k]] := by
  rw [List.take_succ_eq_append_getElem h]
theorem leN_take (bs : List (BitVec 8)) (p n k : Nat) (h : p + n ≤ bs.length) (hk : k < n) :
    leN ((seg bs p n).take (k + 1)) = leN ((seg bs p n).take k) ||| (bs[p + k]'(by omega)).setWidth 64 <<< (8 * k) := by
  have hl := seg_len bs p n h
  rw [take_snoc' _ _ (by omega), leN_snoc, List.length_take, seg_get _ _ _ _ h hk, hl, Nat.min_eq_left (by omega)]
theorem leN_drop (bs : List (BitVec 8)) (p n k : Nat) (h : p + n ≤ bs.length) (hk : k < n) :
    leN ((seg bs p n).drop k) = (leN ((seg bs p n).drop (k + 1)) <<< 8) ||| (bs[p + k]'(by omega)).setWidth 64 := by
  have hl := seg_len bs p n h
  rw [List.drop_eq_getElem_cons (by omega), seg_get _ _ _ _ h hk]
  rfl
theorem val_u64 {a b : Int} (h : a = b) : Value.int .u64 a = Value.int .u64 b := by rw [h]
theorem val_u8 {a b : Int} (h : a = b) : Value.int .u8 a = Value.int .u8 b := by rw [h]
theorem u64_u8m (x : BitVec 64) : U64 x % 256 = U8 (x.setWidth 8) := by
  rw [← u64_u8]; simp [IntKind.wrap, IntKind.bits, IntKind.signed]
theorem one8 : One Try.prog 52 5 (.int .u8 0) 1 :=
  ⟨by kernel_rfl, by
    have h : (Try.prog.info? 5).map (fun i => (i.zero, i.size, i.bytes)) = some (some (.int .u8 0), 1, 1) := by kernel_rfl
    obtain ⟨i, h1, h2, h3, h4⟩ := info_parts h
    exact ⟨i, h1, h2, h3, h4⟩, rfl⟩
def lowN (v : BitVec 64) (n : Nat) : List (BitVec 8) := (List.range n).map fun i => (v >>> (8 * i)).setWidth 8
theorem lowN_len (v : BitVec 64) (n : Nat) : (lowN v n).length = n := by simp [lowN]
theorem lowN_snoc (v : BitVec 64) (n : Nat) : lowN v (n + 1) = lowN v n ++ [(v >>> (8 * n)).setWidth 8] := by
  simp [lowN, List.range_succ]
/-- What a call that makes a slice of its own leaves. -/
def MkP {α : Type} (f : α → Value) (E : TypeId) (xs : List α) (w : World) (e : Ending) (w' : World) : Prop :=
  ∃ A c, e = .returned (.slice A xs.length c) ∧ xs.length ≤ c ∧ Ow f E w' w.heap.size (.slice A xs.length c) xs ∧ Below w.heap.size w w'
theorem MkP.of {α : Type} {f : α → Value} {E : TypeId} {xs : List α} {w w' : World} {v : Value} (ho : Ow f E w' w.heap.size v xs) (hb : Below w.heap.size w w') : MkP f E xs w (.returned v) w' := by
  obtain ⟨A, c, rfl, hc⟩ := ho.form
  exact ⟨A, c, rfl, hc, ho, hb⟩
def putB (bs : List (BitVec 8)) (at_ n : Int) (v : BitVec 64) : List (BitVec 8) := if inB bs.length at_ n then bs.take at_.toNat ++ (lowN v n.toNat ++ bs.drop (at_.toNat + n.toNat)) else []
/-- What a call that makes a slice of its own, and a number beside it, leaves. -/
def MkEP {α : Type} (f : α → Value) (E : TypeId) (xs : List α) (err : Int) (w : World) (e : Ending) (w' : World) : Prop :=
  ∃ A c, e = .returned (.tuple #[.slice A xs.length c, .int .i64 err]) ∧ xs.length ≤ c ∧ Ow f E w' w.heap.size (.slice A xs.length c) xs ∧ Below w.heap.size w w'
theorem MkEP.of {α : Type} {f : α → Value} {E : TypeId} {xs : List α} {err : Int} {w w' : World} {v : Value} (ho : Ow f E w' w.heap.size v xs) (hb : Below w.heap.size w w') : MkEP f E xs err w (.returned (.tuple #[v, .int .i64 err])) w' := by
  obtain ⟨A, c, rfl, hc⟩ := ho.form
  exact ⟨A, c, rfl, hc, ho, hb⟩
theorem set_mid {α : Type} (a m : List α) (x : α) (l : List α) (p k : Nat) (hp : a.length = p) (hk : m.length = k) (y : α) : (a ++ (m ++ x :: l)).set (p + k) y = a ++ ((m ++ [y]) ++ l) := by
  subst hp; subst hk
  rw [List.set_append_right _ _ (by omega), List.set_append_right _ _ (by omega)]
  simp
end Go.Proofs.Ytdfhdgdhhgabbaa
