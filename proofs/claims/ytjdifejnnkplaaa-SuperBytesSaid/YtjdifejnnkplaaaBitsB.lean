/- What bits.Get, bits.Put and their twins in loamref1 answer, for bytes of at most 2^31. -/
import Derived.Test.YtjdifejnnkplaaaBitsA
import Derived.Test.YtjdifejnnkplaaaMem
import Derived.LoopTactic
namespace Go.Proofs.Ytjdifejnnkplaaa
set_option linter.unusedVariables false
set_option linter.unusedSimpArgs false
open Go.RowKit

def b8 (x : BitVec 8) : Value := .int .u8 (U8 x)
theorem b8_one (x : BitVec 8) : (b8 x).oneCell' = true := rfl
def leN : List (BitVec 8) → BitVec 64
  | [] => 0
  | b :: r => (leN r <<< 8) ||| b.setWidth 64
theorem leN_snoc (b : BitVec 8) : ∀ l : List (BitVec 8), leN (l ++ [b]) = leN l ||| (b.setWidth 64 <<< (8 * l.length))
  | [] => by simp [leN]
  | a :: l => by
    simp only [List.cons_append, leN, leN_snoc b l, BitVec.shiftLeft_or_distrib, List.length_cons]
    rw [← BitVec.shiftLeft_add, show 8 * l.length + 8 = 8 * (l.length + 1) from by omega, BitVec.or_assoc, BitVec.or_assoc, BitVec.or_comm (BitVec.setWidth 64 a)]
def inB (len at_ n : Int) : Bool := decide (1 ≤ n ∧ n ≤ 8 ∧ 0 ≤ at_ ∧ at_ + n ≤ len)
theorem inB_out {len at_ n : Int} (h : inB len at_ n = true) : 1 ≤ n ∧ n ≤ 8 ∧ 0 ≤ at_ ∧ at_ + n ≤ len := by simpa [inB] using h
theorem inB_no {len at_ n : Int} (h : ¬ inB len at_ n = true) : ¬ (1 ≤ n ∧ n ≤ 8 ∧ 0 ≤ at_ ∧ at_ + n ≤ len) := by simpa [inB] using h
def seg (bs : List (BitVec 8)) (at_ n : Int) : List (BitVec 8) := (bs.drop at_.toNat).take n.toNat
def getB (bs : List (BitVec 8)) (at_ n : Int) : BitVec 64 := if inB bs.length at_ n then leN (seg bs at_ n) else 0
def errB (len at_ n : Int) : Int := if inB len at_ n then 0 else 1
attribute [local go_sem] shlU64 shrU64 andU64 orU64 andNotU64 addU64 subU64 u8_u64
set_option maxHeartbeats 400000
theorem inside_c (len at_ n : Int) (h1 : 0 ≤ len) (h2 : len ≤ 2147483648) (w : World) : Ans Try.prog 35 #[.int .i64 len, .int .i64 at_, .int .i64 n] w (.bool (inB len at_ n)) := by
  unfold Ans
  go_enter Try.func35, Try.ntmps35
  go_wp2
  all_goals (go_ret; refine ans_bool ?_ (by repeat (first | exact Dn.rfl_ _ | apply Dn.drew | apply Dn.drewN)); unfold inB)
  all_goals first | (rw [Bool.eq_iff_iff]; simp only [decide_eq_true_eq]; omega) | (symm; rw [decide_eq_false_iff_not]; omega)
theorem ans_u64err {a b : BitVec 64} {x y : Int} {w w' : World} (h : a = b) (h2 : x = y) (hw : Dn w w') : AnsP (.tuple #[.int .u64 (U64 b), .int .i64 y]) w (.returned (.tuple #[.int .u64 (U64 a), .int .i64 x])) w' := ⟨by rw [h, h2], hw⟩
theorem seg_len (bs : List (BitVec 8)) (at_ n : Nat) (h : at_ + n ≤ bs.length) : (seg bs at_ n).length = n := by simp [seg]; omega
theorem seg_get (bs : List (BitVec 8)) (at_ n k : Nat) (h : at_ + n ≤ bs.length) (hk : k < n) (hk2 : k < (seg bs at_ n).length) : (seg bs at_ n)[k] = bs[at_ + k]'(by omega) := by
  simp [seg]
theorem take_snoc' {α : Type} (l : List α) (k : Nat) (h : k < l.length) : l.take (k + 1) = l.take k ++ [l[k]] := by
  rw [List.take_succ_eq_append_getElem h]
theorem leN_take (bs : List (BitVec 8)) (p n k : Nat) (h : p + n ≤ bs.length) (hk : k < n) :
    leN ((seg bs p n).take (k + 1)) = leN ((seg bs p n).take k) ||| (bs[p + k]'(by omega)).setWidth 64 <<< (8 * k) := by
  have hl := seg_len bs p n h
  rw [take_snoc' _ _ (by omega), leN_snoc, List.length_take, seg_get _ _ _ _ h hk, hl, Nat.min_eq_left (by omega)]
theorem leN_drop (bs : List (BitVec 8)) (p n k : Nat) (h : p + n ≤ bs.length) (hk : k < n) :
    leN ((seg bs p n).drop k) = (leN ((seg bs p n).drop (k + 1)) <<< 8) ||| (bs[p + k]'(by omega)).setWidth 64 := by
  have hl := seg_len bs p n h
  rw [List.drop_eq_getElem_cons (by omega), seg_get _ _ _ _ h hk]
  rfl
theorem val_u64 {a b : Int} (h : a = b) : Value.int .u64 a = Value.int .u64 b := by rw [h]
theorem get_c (bs : List (BitVec 8)) (A : Option Addr) (c : Nat) (at_ n : Int) (w : World) (B : Nat) (hr : Rd b8 w B A bs) (hl : bs.length ≤ 2147483648) :
    Ans Try.prog 25 #[.slice A bs.length c, .int .i64 at_, .int .i64 n] w (.tuple #[.int .u64 (U64 (getB bs at_ n)), .int .i64 (errB bs.length at_ n)]) := by
  unfold Ans
  by_cases h : inB bs.length at_ n = true
  · obtain ⟨h1, h2, h3, h4⟩ := inB_out h
    obtain ⟨n, rfl⟩ := Int.eq_ofNat_of_zero_le (show 0 ≤ n by omega)
    obtain ⟨p, rfl⟩ := Int.eq_ofNat_of_zero_le h3
    have h4' : p + n ≤ bs.length := by omega
    go_enter Try.func25, Try.ntmps25
    go_wp2_with (go_at_call 35; refine (inside_c _ _ _ (by omega) (by omega) _).go.mono ?_; rintro e w' ⟨rfl, mm, rfl⟩)
    go_loop [8, 9, 17] (fun v _ i => ∃ k : Nat, k ≤ n ∧ i = .int .i64 k ∧ v = .int .u64 (U64 (leN ((seg bs p n).take k)))) (fun _ _ i => n - (intOf i).toNat)
    case atStart => exact ⟨0, by omega, rfl, rfl⟩
    case round =>
      obtain ⟨k, hk, rfl, rfl⟩ := hrel
      by_cases hlt : k < n
      · obtain ⟨ad, rfl, _, hc⟩ := hr.at_ (j := p + k) (by omega)
        unfold b8 at hc
        go_wp2
        go_round
        case rel =>
          refine ⟨k + 1, by omega, by go_num, val_u64 ?_⟩
          simp only [wrapU64, wrapU32, wrapU8, shl8U64, shl8U32, shlU64, shlU32, shlU8, shrU64, shrU32, shrU8, andU64, andU32, andU8, orU64, orU32, orU8, xorU64, xorU32, xorU8, andNotU64, addU64, subU64, u64_u8, u64_u32, u32_u8]
          rw [leN_take bs p n k h4' hlt]
        case measure => (first | (simp [intOf]; done) | (simp [intOf]; omega))
      · go_wp2
        go_ret2
        refine ans_u64err ?_ ?_ (by repeat (first | exact Dn.rfl_ _ | apply Dn.drew | apply Dn.drewN))
        · have e : k = n := by omega
          subst e
          unfold getB
          rw [if_pos h, List.take_of_length_le (by rw [seg_len _ _ _ h4']; omega)]
        · unfold errB; rw [if_pos h]
  · have h' := inB_no h
    have hb : inB bs.length at_ n = false := by simpa using h
    go_enter Try.func25, Try.ntmps25
    go_wp2_with (go_at_call 35; refine (inside_c _ _ _ (by omega) (by omega) _).go.mono ?_; rintro e w' ⟨rfl, mm, rfl⟩)
    go_ret2
    exact ⟨by simp [getB, errB, hb]; decide +kernel, (by repeat (first | exact Dn.rfl_ _ | apply Dn.drew | apply Dn.drewN))⟩
theorem rin_c (at_ n len : Int) (h1 : 0 ≤ len) (h2 : len ≤ 2147483648) (h3 : 1 ≤ n) (h4 : n ≤ 8) (w : World) : Ans Try.prog 40 #[.int .i64 at_, .int .i64 n, .int .i64 len] w (.bool (inB len at_ n)) := by
  unfold Ans
  go_enter Try.func40, Try.ntmps40
  go_wp2
  all_goals (go_ret; refine ans_bool ?_ (by repeat (first | exact Dn.rfl_ _ | apply Dn.drew | apply Dn.drewN)); unfold inB)
  all_goals first | (rw [Bool.eq_iff_iff]; simp only [decide_eq_true_eq]; omega) | (symm; rw [decide_eq_false_iff_not]; omega)
theorem rget_c (bs : List (BitVec 8)) (A : Option Addr) (c : Nat) (at_ n : Int) (w : World) (B : Nat) (hr : Rd b8 w B A bs) (hl : bs.length ≤ 2147483648) :
    Ans Try.prog 36 #[.slice A bs.length c, .int .i64 at_, .int .i64 n] w (.tuple #[.int .u64 (U64 (getB bs at_ n)), .int .i64 (errB bs.length at_ n)]) := by
  unfold Ans
  by_cases h : inB bs.length at_ n = true
  · obtain ⟨h1, h2, h3, h4⟩ := inB_out h
    obtain ⟨n, rfl⟩ := Int.eq_ofNat_of_zero_le (show 0 ≤ n by omega)
    obtain ⟨p, rfl⟩ := Int.eq_ofNat_of_zero_le h3
    have h4' : p + n ≤ bs.length := by omega
    go_enter Try.func36, Try.ntmps36
    go_wp2_with (go_at_call 40; refine (rin_c _ _ _ (by omega) (by omega) (by omega) (by omega) _).go.mono ?_; rintro e w' ⟨rfl, mm, rfl⟩)
    go_loop [8, 9] (fun v i => ∃ k : Nat, k ≤ n ∧ i = .int .i64 (k - 1) ∧ v = .int .u64 (U64 (leN ((seg bs p n).drop k)))) (fun _ i => (intOf i + 1).toNat)
    case atStart => exact ⟨n, by omega, rfl, by rw [List.drop_of_length_le (by rw [seg_len _ _ _ h4']; omega)]; rfl⟩
    case round =>
      obtain ⟨k, hk, rfl, rfl⟩ := hrel
      by_cases hlt : 0 < k
      · obtain ⟨k, rfl⟩ : ∃ j, k = j + 1 := ⟨k - 1, by omega⟩
        obtain ⟨ad, rfl, _, hc⟩ := hr.at_ (j := p + k) (by omega)
        unfold b8 at hc
        go_wp2
        go_round
        case rel =>
          refine ⟨k, by omega, rfl, val_u64 ?_⟩
          simp only [wrapU64, wrapU32, wrapU8, shl8U64, shl8U32, shlU64, shlU32, shlU8, shrU64, shrU32, shrU8, andU64, andU32, andU8, orU64, orU32, orU8, xorU64, xorU32, xorU8, andNotU64, addU64, subU64, u64_u8, u64_u32, u32_u8]
          rw [leN_drop bs p n k h4' (by omega)]
        case measure => (first | (simp [intOf]; done) | (simp [intOf]; omega))
      · go_wp2
        go_ret2
        refine ans_u64err ?_ ?_ (by repeat (first | exact Dn.rfl_ _ | apply Dn.drew | apply Dn.drewN))
        · have e : k = 0 := by omega
          subst e
          unfold getB
          rw [if_pos h, List.drop_zero]
        · unfold errB; rw [if_pos h]
  · have h' := inB_no h
    have hb : inB bs.length at_ n = false := by simpa using h
    go_enter Try.func36, Try.ntmps36
    go_wp2_with (go_at_call 40; refine (rin_c _ _ _ (by omega) (by omega) (by omega) (by omega) _).go.mono ?_; rintro e w' ⟨rfl, mm, rfl⟩)
    all_goals go_ret2
    all_goals exact ⟨by first | (simp [getB, errB, hb]; done) | (simp [getB, errB, hb]; decide +kernel), (by repeat (first | exact Dn.rfl_ _ | apply Dn.drew | apply Dn.drewN))⟩

theorem val_u8 {a b : Int} (h : a = b) : Value.int .u8 a = Value.int .u8 b := by rw [h]
theorem u64_u8m (x : BitVec 64) : U64 x % 256 = U8 (x.setWidth 8) := by
  rw [← u64_u8]; simp [IntKind.wrap, IntKind.bits, IntKind.signed]
theorem one8 : One Try.prog 29 5 (.int .u8 0) 1 :=
  ⟨by kernel_rfl, by
    have h : (Try.prog.info? 5).map (fun i => (i.zero, i.size, i.bytes)) = some (some (.int .u8 0), 1, 1) := by kernel_rfl
    obtain ⟨i, h1, h2, h3, h4⟩ := info_parts h
    exact ⟨i, h1, h2, h3, h4⟩, rfl⟩
def lowN (v : BitVec 64) (n : Nat) : List (BitVec 8) := (List.range n).map fun i => (v >>> (8 * i)).setWidth 8
theorem lowN_len (v : BitVec 64) (n : Nat) : (lowN v n).length = n := by simp [lowN]
theorem lowN_snoc (v : BitVec 64) (n : Nat) : lowN v (n + 1) = lowN v n ++ [(v >>> (8 * n)).setWidth 8] := by
  simp [lowN, List.range_succ]
/-- What a call that makes a slice of its own leaves. -/
def MkP {α : Type} (f : α → Value) (E : TypeId) (xs : List α) (w : World) (e : Ending) (w' : World) : Prop :=
  ∃ A c, e = .returned (.slice A xs.length c) ∧ xs.length ≤ c ∧ Ow f E w' w.heap.size (.slice A xs.length c) xs ∧ Below w.heap.size w w'
theorem MkP.of {α : Type} {f : α → Value} {E : TypeId} {xs : List α} {w w' : World} {v : Value} (ho : Ow f E w' w.heap.size v xs) (hb : Below w.heap.size w w') : MkP f E xs w (.returned v) w' := by
  obtain ⟨A, c, rfl, hc⟩ := ho.form
  exact ⟨A, c, rfl, hc, ho, hb⟩
theorem low_c (v : BitVec 64) (n : Nat) (hn : n ≤ 8) (w : World) : Calls Try.prog 21 #[.int .u64 (U64 v), .int .i64 n] w (MkP b8 5 (lowN v n) w) := by
  go_enter Try.func21, Try.ntmps21
  go_wp2
  go_loopw [5, 6] (fun o i wr => ∃ k : Nat, k ≤ n ∧ i = .int .i64 k ∧ Ow b8 5 wr w.heap.size o (lowN v k) ∧ Below w.heap.size w wr) (fun _ i _ => n - (intOf i).toNat)
  case atStart => exact ⟨0, by omega, rfl, Ow.nil_ _ _ _ _, Below.refl _ _⟩
  case round =>
    obtain ⟨k, hk, rfl, ho, hb⟩ := hrel
    by_cases hlt : k < n
    · obtain ⟨A, c, rfl, hAc⟩ := ho.form
      have hlen := lowN_len v k
      have HL := Lib.hid hlen; clear hlen
      have hR : Rd b8 (wr.alloc (.cells #[.int .u8 (U64 (v >>> (8 * k)) % 256)] 5)) (wr.heap.size + 1) (some ⟨wr.heap.size, 0, none⟩) [(v >>> (8 * k)).setWidth 8] := rd1_new (val_u8 (u64_u8m _))
      have hc2 : (lowN v k).length + [(v >>> (8 * k)).setWidth 8].length ≤ 4294967296 := by rw [HL.out]; simp; omega
      have hc3 : w.heap.size ≤ (wr.alloc (.cells #[.int .u8 (U64 (v >>> (8 * k)) % 256)] 5)).heap.size := by have := hb.size; simp; omega
      have HC := And.intro hc2 hc3; clear hc2 hc3
      have HC := Lib.hid HC
      go_wp2_with (at_builtin; refine wp_app one8 b8_one rfl _ _ rfl w.heap.size _ (lowN v k) rfl (ho.alloc _) _ 1 1 [(v >>> (8 * k)).setWidth 8] rfl rfl (wr.heap.size + 1) hR HC.out.1 (by decide) HC.out.2 ?_; intro v1 w1 hown1 hb1 _ _)
      go_roundw
      case rel => exact ⟨k + 1, by omega, by go_num, by rw [lowN_snoc]; exact hown1, (hb.alloc (by have := hb.size; omega) _).trans hb1⟩
      case measure => (first | (simp [intOf]; done) | (simp [intOf]; omega))
    · go_wp2
      go_ret
      obtain rfl : k = n := by omega
      exact MkP.of ho hb
def putB (bs : List (BitVec 8)) (at_ n : Int) (v : BitVec 64) : List (BitVec 8) := if inB bs.length at_ n then bs.take at_.toNat ++ (lowN v n.toNat ++ bs.drop (at_.toNat + n.toNat)) else []
/-- What a call that makes a slice of its own, and a number beside it, leaves. -/
def MkEP {α : Type} (f : α → Value) (E : TypeId) (xs : List α) (err : Int) (w : World) (e : Ending) (w' : World) : Prop :=
  ∃ A c, e = .returned (.tuple #[.slice A xs.length c, .int .i64 err]) ∧ xs.length ≤ c ∧ Ow f E w' w.heap.size (.slice A xs.length c) xs ∧ Below w.heap.size w w'
theorem MkEP.of {α : Type} {f : α → Value} {E : TypeId} {xs : List α} {err : Int} {w w' : World} {v : Value} (ho : Ow f E w' w.heap.size v xs) (hb : Below w.heap.size w w') : MkEP f E xs err w (.returned (.tuple #[v, .int .i64 err])) w' := by
  obtain ⟨A, c, rfl, hc⟩ := ho.form
  exact ⟨A, c, rfl, hc, ho, hb⟩
theorem set_mid {α : Type} (a m : List α) (x : α) (l : List α) (p k : Nat) (hp : a.length = p) (hk : m.length = k) (y : α) : (a ++ (m ++ x :: l)).set (p + k) y = a ++ ((m ++ [y]) ++ l) := by
  subst hp; subst hk
  rw [List.set_append_right _ _ (by omega), List.set_append_right _ _ (by omega)]
  simp
end Go.Proofs.Ytjdifejnnkplaaa
