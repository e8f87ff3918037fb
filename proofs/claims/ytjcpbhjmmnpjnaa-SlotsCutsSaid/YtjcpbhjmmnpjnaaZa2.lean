/- Texts joined: BitsB CrcA CrcB RegS SupA SupB SupC GeomC. -/
import Derived.Test.YtjcpbhjmmnpjnaaZa1
import Derived.LoopTactic
import Derived.Laws.Rows
import Derived.Laws.Tables
/- What bits.Get, bits.Put and their twins in loamref1 answer, for bytes of at most 2^31. -/
namespace Go.Proofs.Ytjcpbhjmmnpjnaa
set_option linter.unusedVariables false
set_option linter.unusedSimpArgs false
open Go.RowKit

def b8 (x : BitVec 8) : Value := .int .u8 (U8 x)
theorem b8_one (x : BitVec 8) : (b8 x).oneCell' = true := rfl
def leN : List (BitVec 8) → BitVec 64
  | [] => 0
  | b :: r => (leN r <<< 8) ||| b.setWidth 64
theorem leN_snoc (b : BitVec 8) : ∀ l : List (BitVec 8), leN (l ++ [b]) = leN l ||| (b.setWidth 64 <<< (8 * l.length))
  | [] => by simp [leN]
  | a :: l => by
    simp only [List.cons_append, leN, leN_snoc b l, BitVec.shiftLeft_or_distrib, List.length_cons]
    rw [← BitVec.shiftLeft_add, show 8 * l.length + 8 = 8 * (l.length + 1) from by omega, BitVec.or_assoc, BitVec.or_assoc, BitVec.or_comm (BitVec.setWidth 64 a)]
def inB (len at_ n : Int) : Bool := decide (1 ≤ n ∧ n ≤ 8 ∧ 0 ≤ at_ ∧ at_ + n ≤ len)
theorem inB_out {len at_ n : Int} (h : inB len at_ n = true) : 1 ≤ n ∧ n ≤ 8 ∧ 0 ≤ at_ ∧ at_ + n ≤ len := by simpa [inB] using h
theorem inB_no {len at_ n : Int} (h : ¬ inB len at_ n = true) : ¬ (1 ≤ n ∧ n ≤ 8 ∧ 0 ≤ at_ ∧ at_ + n ≤ len) := by simpa [inB] using h
def seg (bs : List (BitVec 8)) (at_ n : Int) : List (BitVec 8) := (bs.drop at_.toNat).take n.toNat
def getB (bs : List (BitVec 8)) (at_ n : Int) : BitVec 64 := if inB bs.length at_ n then leN (seg bs at_ n) else 0
def errB (len at_ n : Int) : Int := if inB len at_ n then 0 else 1
attribute [local go_sem] shlU64 shrU64 andU64 orU64 andNotU64 addU64 subU64 u8_u64
set_option maxHeartbeats 400000
theorem inside_c (len at_ n : Int) (h1 : 0 ≤ len) (h2 : len ≤ 2147483648) (w : World) : Ans Try.prog 64 #[.int .i64 len, .int .i64 at_, .int .i64 n] w (.bool (inB len at_ n)) := by
  unfold Ans
  go_enter Try.func64, Try.ntmps64
  go_wp2
  all_goals (go_ret; refine ans_bool ?_ (by repeat (first | exact Dn.rfl_ _ | apply Dn.drew | apply Dn.drewN)); unfold inB)
  all_goals first | (rw [Bool.eq_iff_iff]; simp only [decide_eq_true_eq]; omega) | (symm; rw [decide_eq_false_iff_not]; omega)
theorem ans_u64err {a b : BitVec 64} {x y : Int} {w w' : World} (h : a = b) (h2 : x = y) (hw : Dn w w') : AnsP (.tuple #[.int .u64 (U64 b), .int .i64 y]) w (.returned (.tuple #[.int .u64 (U64 a), .int .i64 x])) w' := ⟨by rw [h, h2], hw⟩
theorem seg_len (bs : List (BitVec 8)) (at_ n : Nat) (h : at_ + n ≤ bs.length) : (seg bs at_ n).length = n := by simp [seg]; omega
theorem seg_get (bs : List (BitVec 8)) (at_ n k : Nat) (h : at_ + n ≤ bs.length) (hk : k < n) (hk2 : k < (seg bs at_ n).length) : (seg bs at_ n)[k] = bs[at_ + k]'(by omega) := by
  simp [seg]
theorem take_snoc' {α : Type} (l : List α) (k : Nat) (h : k < l.length) : l.take (k + 1) = l.take k ++ [l[k]] := by
  rw [List.take_succ_eq_append_getElem h]
theorem leN_take (bs : List (BitVec 8)) (p n k : Nat) (h : p + n ≤ bs.length) (hk : k < n) :
    leN ((seg bs p n).take (k + 1)) = leN ((seg bs p n).take k) ||| (bs[p + k]'(by omega)).setWidth 64 <<< (8 * k) := by
  have hl := seg_len bs p n h
  rw [take_snoc' _ _ (by omega), leN_snoc, List.length_take, seg_get _ _ _ _ h hk, hl, Nat.min_eq_left (by omega)]
theorem leN_drop (bs : List (BitVec 8)) (p n k : Nat) (h : p + n ≤ bs.length) (hk : k < n) :
    leN ((seg bs p n).drop k) = (leN ((seg bs p n).drop (k + 1)) <<< 8) ||| (bs[p + k]'(by omega)).setWidth 64 := by
  have hl := seg_len bs p n h
  rw [List.drop_eq_getElem_cons (by omega), seg_get _ _ _ _ h hk]
  rfl
theorem val_u64 {a b : Int} (h : a = b) : Value.int .u64 a = Value.int .u64 b := by rw [h]
theorem get_c (bs : List (BitVec 8)) (A : Option Addr) (c : Nat) (at_ n : Int) (w : World) (B : Nat) (hr : Rd b8 w B A bs) (hl : bs.length ≤ 2147483648) :
    Ans Try.prog 47 #[.slice A bs.length c, .int .i64 at_, .int .i64 n] w (.tuple #[.int .u64 (U64 (getB bs at_ n)), .int .i64 (errB bs.length at_ n)]) := by
  unfold Ans
  by_cases h : inB bs.length at_ n = true
  · obtain ⟨h1, h2, h3, h4⟩ := inB_out h
    obtain ⟨n, rfl⟩ := Int.eq_ofNat_of_zero_le (show 0 ≤ n by omega)
    obtain ⟨p, rfl⟩ := Int.eq_ofNat_of_zero_le h3
    have h4' : p + n ≤ bs.length := by omega
    go_enter Try.func47, Try.ntmps47
    go_wp2_with (go_at_call 64; refine (inside_c _ _ _ (by omega) (by omega) _).go.mono ?_; rintro e w' ⟨rfl, mm, rfl⟩)
    go_loop [8, 9, 17] (fun v _ i => ∃ k : Nat, k ≤ n ∧ i = .int .i64 k ∧ v = .int .u64 (U64 (leN ((seg bs p n).take k)))) (fun _ _ i => n - (intOf i).toNat)
    case atStart => exact ⟨0, by omega, rfl, rfl⟩
    case round =>
      obtain ⟨k, hk, rfl, rfl⟩ := hrel
      by_cases hlt : k < n
      · obtain ⟨ad, rfl, _, hc⟩ := hr.at_ (j := p + k) (by omega)
        unfold b8 at hc
        go_wp2
        go_round
        case rel =>
          refine ⟨k + 1, by omega, by go_num, val_u64 ?_⟩
          simp only [wrapU64, wrapU32, wrapU8, shl8U64, shl8U32, shlU64, shlU32, shlU8, shrU64, shrU32, shrU8, andU64, andU32, andU8, orU64, orU32, orU8, xorU64, xorU32, xorU8, andNotU64, addU64, subU64, u64_u8, u64_u32, u32_u8]
          rw [leN_take bs p n k h4' hlt]
        case measure => (first | (simp [intOf]; done) | (simp [intOf]; omega))
      · go_wp2
        go_ret2
        refine ans_u64err ?_ ?_ (by repeat (first | exact Dn.rfl_ _ | apply Dn.drew | apply Dn.drewN))
        · have e : k = n := by omega
          subst e
          unfold getB
          rw [if_pos h, List.take_of_length_le (by rw [seg_len _ _ _ h4']; omega)]
        · unfold errB; rw [if_pos h]
  · have h' := inB_no h
    have hb : inB bs.length at_ n = false := by simpa using h
    go_enter Try.func47, Try.ntmps47
    go_wp2_with (go_at_call 64; refine (inside_c _ _ _ (by omega) (by omega) _).go.mono ?_; rintro e w' ⟨rfl, mm, rfl⟩)
    go_ret2
    exact ⟨by simp [getB, errB, hb]; decide +kernel, (by repeat (first | exact Dn.rfl_ _ | apply Dn.drew | apply Dn.drewN))⟩
theorem rin_c (at_ n len : Int) (h1 : 0 ≤ len) (h2 : len ≤ 2147483648) (h3 : 1 ≤ n) (h4 : n ≤ 8) (w : World) : Ans Try.prog 71 #[.int .i64 at_, .int .i64 n, .int .i64 len] w (.bool (inB len at_ n)) := by
  unfold Ans
  go_enter Try.func71, Try.ntmps71
  go_wp2
  all_goals (go_ret; refine ans_bool ?_ (by repeat (first | exact Dn.rfl_ _ | apply Dn.drew | apply Dn.drewN)); unfold inB)
  all_goals first | (rw [Bool.eq_iff_iff]; simp only [decide_eq_true_eq]; omega) | (symm; rw [decide_eq_false_iff_not]; omega)
theorem rget_c (bs : List (BitVec 8)) (A : Option Addr) (c : Nat) (at_ n : Int) (w : World) (B : Nat) (hr : Rd b8 w B A bs) (hl : bs.length ≤ 2147483648) :
    Ans Try.prog 65 #[.slice A bs.length c, .int .i64 at_, .int .i64 n] w (.tuple #[.int .u64 (U64 (getB bs at_ n)), .int .i64 (errB bs.length at_ n)]) := by
  unfold Ans
  by_cases h : inB bs.length at_ n = true
  · obtain ⟨h1, h2, h3, h4⟩ := inB_out h
    obtain ⟨n, rfl⟩ := Int.eq_ofNat_of_zero_le (show 0 ≤ n by omega)
    obtain ⟨p, rfl⟩ := Int.eq_ofNat_of_zero_le h3
    have h4' : p + n ≤ bs.length := by omega
    go_enter Try.func65, Try.ntmps65
    go_wp2_with (go_at_call 71; refine (rin_c _ _ _ (by omega) (by omega) (by omega) (by omega) _).go.mono ?_; rintro e w' ⟨rfl, mm, rfl⟩)
    go_loop [8, 9] (fun v i => ∃ k : Nat, k ≤ n ∧ i = .int .i64 (k - 1) ∧ v = .int .u64 (U64 (leN ((seg bs p n).drop k)))) (fun _ i => (intOf i + 1).toNat)
    case atStart => exact ⟨n, by omega, rfl, by rw [List.drop_of_length_le (by rw [seg_len _ _ _ h4']; omega)]; rfl⟩
    case round =>
      obtain ⟨k, hk, rfl, rfl⟩ := hrel
      by_cases hlt : 0 < k
      · obtain ⟨k, rfl⟩ : ∃ j, k = j + 1 := ⟨k - 1, by omega⟩
        obtain ⟨ad, rfl, _, hc⟩ := hr.at_ (j := p + k) (by omega)
        unfold b8 at hc
        go_wp2
        go_round
        case rel =>
          refine ⟨k, by omega, rfl, val_u64 ?_⟩
          simp only [wrapU64, wrapU32, wrapU8, shl8U64, shl8U32, shlU64, shlU32, shlU8, shrU64, shrU32, shrU8, andU64, andU32, andU8, orU64, orU32, orU8, xorU64, xorU32, xorU8, andNotU64, addU64, subU64, u64_u8, u64_u32, u32_u8]
          rw [leN_drop bs p n k h4' (by omega)]
        case measure => (first | (simp [intOf]; done) | (simp [intOf]; omega))
      · go_wp2
        go_ret2
        refine ans_u64err ?_ ?_ (by repeat (first | exact Dn.rfl_ _ | apply Dn.drew | apply Dn.drewN))
        · have e : k = 0 := by omega
          subst e
          unfold getB
          rw [if_pos h, List.drop_zero]
        · unfold errB; rw [if_pos h]
  · have h' := inB_no h
    have hb : inB bs.length at_ n = false := by simpa using h
    go_enter Try.func65, Try.ntmps65
    go_wp2_with (go_at_call 71; refine (rin_c _ _ _ (by omega) (by omega) (by omega) (by omega) _).go.mono ?_; rintro e w' ⟨rfl, mm, rfl⟩)
    all_goals go_ret2
    all_goals exact ⟨by first | (simp [getB, errB, hb]; done) | (simp [getB, errB, hb]; decide +kernel), (by repeat (first | exact Dn.rfl_ _ | apply Dn.drew | apply Dn.drewN))⟩

theorem val_u8 {a b : Int} (h : a = b) : Value.int .u8 a = Value.int .u8 b := by rw [h]
theorem u64_u8m (x : BitVec 64) : U64 x % 256 = U8 (x.setWidth 8) := by
  rw [← u64_u8]; simp [IntKind.wrap, IntKind.bits, IntKind.signed]
theorem one8 : One Try.prog 22 5 (.int .u8 0) 1 :=
  ⟨by kernel_rfl, by
    have h : (Try.prog.info? 5).map (fun i => (i.zero, i.size, i.bytes)) = some (some (.int .u8 0), 1, 1) := by kernel_rfl
    obtain ⟨i, h1, h2, h3, h4⟩ := info_parts h
    exact ⟨i, h1, h2, h3, h4⟩, rfl⟩
def lowN (v : BitVec 64) (n : Nat) : List (BitVec 8) := (List.range n).map fun i => (v >>> (8 * i)).setWidth 8
theorem lowN_len (v : BitVec 64) (n : Nat) : (lowN v n).length = n := by simp [lowN]
theorem lowN_snoc (v : BitVec 64) (n : Nat) : lowN v (n + 1) = lowN v n ++ [(v >>> (8 * n)).setWidth 8] := by
  simp [lowN, List.range_succ]
/-- What a call that makes a slice of its own leaves. -/
def MkP {α : Type} (f : α → Value) (E : TypeId) (xs : List α) (w : World) (e : Ending) (w' : World) : Prop :=
  ∃ A c, e = .returned (.slice A xs.length c) ∧ xs.length ≤ c ∧ Ow f E w' w.heap.size (.slice A xs.length c) xs ∧ Below w.heap.size w w'
theorem MkP.of {α : Type} {f : α → Value} {E : TypeId} {xs : List α} {w w' : World} {v : Value} (ho : Ow f E w' w.heap.size v xs) (hb : Below w.heap.size w w') : MkP f E xs w (.returned v) w' := by
  obtain ⟨A, c, rfl, hc⟩ := ho.form
  exact ⟨A, c, rfl, hc, ho, hb⟩
theorem low_c (v : BitVec 64) (n : Nat) (hn : n ≤ 8) (w : World) : Calls Try.prog 59 #[.int .u64 (U64 v), .int .i64 n] w (MkP b8 5 (lowN v n) w) := by
  go_enter Try.func59, Try.ntmps59
  go_wp2
  go_loopw [5, 6] (fun o i wr => ∃ k : Nat, k ≤ n ∧ i = .int .i64 k ∧ Ow b8 5 wr w.heap.size o (lowN v k) ∧ Below w.heap.size w wr) (fun _ i _ => n - (intOf i).toNat)
  case atStart => exact ⟨0, by omega, rfl, Ow.nil_ _ _ _ _, Below.refl _ _⟩
  case round =>
    obtain ⟨k, hk, rfl, ho, hb⟩ := hrel
    by_cases hlt : k < n
    · obtain ⟨A, c, rfl, hAc⟩ := ho.form
      have hlen := lowN_len v k
      have HL := Lib.hid hlen; clear hlen
      have hR : Rd b8 (wr.alloc (.cells #[.int .u8 (U64 (v >>> (8 * k)) % 256)] 5)) (wr.heap.size + 1) (some ⟨wr.heap.size, 0, none⟩) [(v >>> (8 * k)).setWidth 8] := rd1_new (val_u8 (u64_u8m _))
      have hc2 : (lowN v k).length + [(v >>> (8 * k)).setWidth 8].length ≤ 4294967296 := by rw [HL.out]; simp; omega
      have hc3 : w.heap.size ≤ (wr.alloc (.cells #[.int .u8 (U64 (v >>> (8 * k)) % 256)] 5)).heap.size := by have := hb.size; simp; omega
      have HC := And.intro hc2 hc3; clear hc2 hc3
      have HC := Lib.hid HC
      go_wp2_with (at_builtin; refine wp_app one8 b8_one rfl _ _ rfl w.heap.size _ (lowN v k) rfl (ho.alloc _) _ 1 1 [(v >>> (8 * k)).setWidth 8] rfl rfl (wr.heap.size + 1) hR HC.out.1 (by decide) HC.out.2 ?_; intro v1 w1 hown1 hb1 _ _)
      go_roundw
      case rel => exact ⟨k + 1, by omega, by go_num, by rw [lowN_snoc]; exact hown1, (hb.alloc (by have := hb.size; omega) _).trans hb1⟩
      case measure => (first | (simp [intOf]; done) | (simp [intOf]; omega))
    · go_wp2
      go_ret
      obtain rfl : k = n := by omega
      exact MkP.of ho hb
def putB (bs : List (BitVec 8)) (at_ n : Int) (v : BitVec 64) : List (BitVec 8) := if inB bs.length at_ n then bs.take at_.toNat ++ (lowN v n.toNat ++ bs.drop (at_.toNat + n.toNat)) else []
/-- What a call that makes a slice of its own, and a number beside it, leaves. -/
def MkEP {α : Type} (f : α → Value) (E : TypeId) (xs : List α) (err : Int) (w : World) (e : Ending) (w' : World) : Prop :=
  ∃ A c, e = .returned (.tuple #[.slice A xs.length c, .int .i64 err]) ∧ xs.length ≤ c ∧ Ow f E w' w.heap.size (.slice A xs.length c) xs ∧ Below w.heap.size w w'
theorem MkEP.of {α : Type} {f : α → Value} {E : TypeId} {xs : List α} {err : Int} {w w' : World} {v : Value} (ho : Ow f E w' w.heap.size v xs) (hb : Below w.heap.size w w') : MkEP f E xs err w (.returned (.tuple #[v, .int .i64 err])) w' := by
  obtain ⟨A, c, rfl, hc⟩ := ho.form
  exact ⟨A, c, rfl, hc, ho, hb⟩
theorem set_mid {α : Type} (a m : List α) (x : α) (l : List α) (p k : Nat) (hp : a.length = p) (hk : m.length = k) (y : α) : (a ++ (m ++ x :: l)).set (p + k) y = a ++ ((m ++ [y]) ++ l) := by
  subst hp; subst hk
  rw [List.set_append_right _ _ (by omega), List.set_append_right _ _ (by omega)]
  simp
end Go.Proofs.Ytjcpbhjmmnpjnaa
/- What crc.Add and crc.Sum answer. Conditions: at most 2^31 bytes. -/
namespace Go.Proofs.Ytjcpbhjmmnpjnaa
set_option linter.unusedVariables false
set_option linter.unusedSimpArgs false
open Go.RowKit
def tabL : List (BitVec 32) := [0x00000000, 0x1db71064, 0x3b6e20c8, 0x26d930ac, 0x76dc4190, 0x6b6b51f4, 0x4db26158, 0x5005713c, 0xedb88320, 0xf00f9344, 0xd6d6a3e8, 0xcb61b38c, 0x9b64c2b0, 0x86d3d2d4, 0xa00ae278, 0xbdbdf21c]
def idx (r : BitVec 32) : Nat := (r &&& 15#32).toNat
def tab1 (i : Nat) : BitVec 32 := tabL.getD i 0
def turnC (r : BitVec 32) : BitVec 32 := (r >>> 4) ^^^ tab1 (idx r)
def stepC (r : BitVec 32) (x : BitVec 8) : BitVec 32 := turnC (turnC (r ^^^ x.setWidth 32))
def addC (s : BitVec 32) (bs : List (BitVec 8)) : BitVec 32 := ~~~ bs.foldl stepC (~~~ s)
def u32v (x : BitVec 32) : Value := .int .u32 (U32 x)
theorem idx_lt (r : BitVec 32) : idx r < 16 := by
  unfold idx
  rw [BitVec.toNat_and, show (15#32).toNat = 2 ^ 4 - 1 from rfl, Nat.and_two_pow_sub_one_eq_mod]
  omega
theorem and15 (r : BitVec 32) : bits .and .u32 (U32 r) 15 = (idx r : Int) := by
  rw [show (15 : Int) = U32 15#32 from by decide +kernel, andU32]; rfl
theorem shr4U32 (r : BitVec 32) : U32 r / (16 : Int) = U32 (r >>> 4) := by
  rw [show (16 : Int) = 2 ^ 4 from by decide, shrU32]
theorem notU32 (s : BitVec 32) : bits .xor .u32 IntKind.u32.max (U32 s) = U32 (~~~ s) := by
  rw [show IntKind.u32.max = U32 (BitVec.allOnes 32) from by decide +kernel, xorU32]
  congr 1
  try (apply BitVec.eq_of_getLsbD_eq; intro i hi; simp [hi])
theorem xorU32U8 (r : BitVec 32) (x : BitVec 8) : bits .xor .u32 (U32 r) (U8 x) = U32 (r ^^^ x.setWidth 32) := by rw [u8_u32, xorU32]
theorem wrapu8u32 (x : BitVec 8) : IntKind.u32.wrap (U8 x) = U32 (x.setWidth 32) := by rw [u8_u32, wrapU32]
theorem tab_cell {W : World} {g : Nat} {E : TypeId} (h : Bk W g E #[.int .u32 0, .int .u32 498536548, .int .u32 997073096, .int .u32 651767980, .int .u32 1994146192, .int .u32 1802195444, .int .u32 1303535960, .int .u32 1342533948, .int .u32 3988292384, .int .u32 4027552580, .int .u32 3604390888, .int .u32 3412177804, .int .u32 2607071920, .int .u32 2262029012, .int .u32 2685067896, .int .u32 3183342108]) (i : Nat) (hi : i < 16) : W.cell? ⟨g, i, none⟩ = some (.int .u32 (U32 (tab1 i))) := by
  rw [h.cell]
  have : i = 0 ∨ i = 1 ∨ i = 2 ∨ i = 3 ∨ i = 4 ∨ i = 5 ∨ i = 6 ∨ i = 7 ∨ i = 8 ∨ i = 9 ∨ i = 10 ∨ i = 11 ∨ i = 12 ∨ i = 13 ∨ i = 14 ∨ i = 15 := by omega
  rcases this with rfl | rfl | rfl | rfl | rfl | rfl | rfl | rfl | rfl | rfl | rfl | rfl | rfl | rfl | rfl | rfl <;> rfl
set_option maxHeartbeats 400000
theorem add_c (s : BitVec 32) (bs : List (BitVec 8)) (A : Option Addr) (c : Nat) (w : World) (hr : Rd b8 w w.heap.size A bs) (hl : bs.length ≤ 2147483648) :
    Calls Try.prog 70 #[.int .u32 (U32 s), .slice A bs.length c] w (RetP (.int .u32 (U32 (addC s bs))) w) := by
  have hn := notU32 s
  have hk := Bk.new w 119 #[.int .u32 0, .int .u32 498536548, .int .u32 997073096, .int .u32 651767980, .int .u32 1994146192, .int .u32 1802195444, .int .u32 1303535960, .int .u32 1342533948, .int .u32 3988292384, .int .u32 4027552580, .int .u32 3604390888, .int .u32 3412177804, .int .u32 2607071920, .int .u32 2262029012, .int .u32 2685067896, .int .u32 3183342108]
  have hB := (Below.refl w.heap.size w).alloc (Nat.le_refl _) (.cells #[.int .u32 0, .int .u32 498536548, .int .u32 997073096, .int .u32 651767980, .int .u32 1994146192, .int .u32 1802195444, .int .u32 1303535960, .int .u32 1342533948, .int .u32 3988292384, .int .u32 4027552580, .int .u32 3604390888, .int .u32 3412177804, .int .u32 2607071920, .int .u32 2262029012, .int .u32 2685067896, .int .u32 3183342108] 119)
  have hr1 := hr.alloc (Nat.le_refl _) (.cells #[.int .u32 0, .int .u32 498536548, .int .u32 997073096, .int .u32 651767980, .int .u32 1994146192, .int .u32 1802195444, .int .u32 1303535960, .int .u32 1342533948, .int .u32 3988292384, .int .u32 4027552580, .int .u32 3604390888, .int .u32 3412177804, .int .u32 2607071920, .int .u32 2262029012, .int .u32 2685067896, .int .u32 3183342108] 119)
  obtain ⟨W, hW⟩ : ∃ W, W = w.alloc (.cells #[.int .u32 0, .int .u32 498536548, .int .u32 997073096, .int .u32 651767980, .int .u32 1994146192, .int .u32 1802195444, .int .u32 1303535960, .int .u32 1342533948, .int .u32 3988292384, .int .u32 4027552580, .int .u32 3604390888, .int .u32 3412177804, .int .u32 2607071920, .int .u32 2262029012, .int .u32 2685067896, .int .u32 3183342108] 119) := ⟨_, rfl⟩
  obtain ⟨g, hg⟩ : ∃ g, g = w.heap.size := ⟨_, rfl⟩
  have HG := Lib.hid hg
  have HW := Lib.hid hW
  rw [← hW] at hk hB hr1
  rw [← hg] at hk
  clear hW hg
  go_enter Try.func70, Try.ntmps70
  go_wp2
  rw [← HW.out, ← HG.out]
  go_loop [6, 8, 14] (fun r _ i => ∃ k : Nat, k ≤ bs.length ∧ i = .int .i64 k ∧ r = .int .u32 (U32 ((bs.take k).foldl stepC (~~~ s)))) (fun _ _ i => bs.length - (intOf i).toNat)
  case atStart => exact ⟨0, by omega, rfl, rfl⟩
  case round =>
    obtain ⟨k, hk', rfl, rfl⟩ := hrel
    by_cases hlt : k < bs.length
    · obtain ⟨ad, rfl, _, hc⟩ := hr1.at_ hlt
      unfold b8 at hc
      obtain ⟨r, hrr⟩ : ∃ r, r = (bs.take k).foldl stepC (~~~ s) := ⟨_, rfl⟩
      rw [← hrr]
      obtain ⟨x, hx⟩ : ∃ x, x = bs[k] := ⟨_, rfl⟩
      rw [← hx] at hc
      obtain ⟨r1, h1⟩ : ∃ y, y = r ^^^ x.setWidth 32 := ⟨_, rfl⟩
      obtain ⟨i1, h2⟩ : ∃ y, y = idx r1 := ⟨_, rfl⟩
      obtain ⟨r2, h3⟩ : ∃ y, y = turnC r1 := ⟨_, rfl⟩
      obtain ⟨i2, h4⟩ : ∃ y, y = idx r2 := ⟨_, rfl⟩
      obtain ⟨r3, h5⟩ : ∃ y, y = turnC r2 := ⟨_, rfl⟩
      have b1 : i1 < 16 := by rw [h2]; exact idx_lt _
      have b2 : i2 < 16 := by rw [h4]; exact idx_lt _
      have t1 := tab_cell hk i1 b1
      have t2 := tab_cell hk i2 b2
      have e0 : U8 x % 4294967296 = U8 x := by have := U8_lo x; have := U8_hi x; omega
      have e1 : bits .xor .u32 (U32 r) (U8 x) = U32 r1 := by rw [h1, xorU32U8]
      have e2 : bits .and .u32 (U32 r1) 15 = (i1 : Int) := by rw [h2, and15]
      have e3 : bits .xor .u32 (U32 r1 / 16) (U32 (tab1 i1)) = U32 r2 := by rw [shr4U32, xorU32, h3, h2]; rfl
      have e4 : bits .and .u32 (U32 r2) 15 = (i2 : Int) := by rw [h4, and15]
      have e5 : bits .xor .u32 (U32 r2 / 16) (U32 (tab1 i2)) = U32 r3 := by rw [shr4U32, xorU32, h5, h4]; rfl
      have fin : (bs.take (k + 1)).foldl stepC (~~~ s) = r3 := by
        rw [take_snoc' _ _ hlt, List.foldl_append, ← hrr, ← hx, h5, h3, h1]; rfl
      have FIN := Lib.hid fin
      clear fin hrr hx h1 h2 h3 h4 h5
      go_wp2
      go_round
      case rel =>
        refine ⟨k + 1, by omega, by go_num, ?_⟩
        rw [FIN.out]
      case measure => (first | (simp [intOf]; done) | (simp [intOf]; omega))
    · have hkk : (bs.take k) = bs := List.take_of_length_le (by omega)
      have hn2 := notU32 (bs.foldl stepC (~~~ s))
      rw [hkk]
      have HK := Lib.hid hkk
      clear hkk
      go_wp2
      go_ret
      exact ret_i rfl hB
end Go.Proofs.Ytjcpbhjmmnpjnaa
/- What crc.Sum, tail and Seal answer. Conditions: at most 2^31 bytes. -/
namespace Go.Proofs.Ytjcpbhjmmnpjnaa
set_option linter.unusedVariables false
set_option linter.unusedSimpArgs false
open Go.RowKit
abbrev Pt : Type := Option Addr × List (BitVec 8) × Nat
def Pt.v (p : Pt) : Value := .slice p.1 p.2.1.length p.2.2
def Pt.l (p : Pt) : List (BitVec 8) := p.2.1
def sumC (ls : List (List (BitVec 8))) : BitVec 32 := ls.foldl addC 0
theorem sumC_snoc (ls : List (List (BitVec 8))) (l : List (BitVec 8)) : sumC (ls ++ [l]) = addC (sumC ls) l := by simp [sumC]
def tailL (s : BitVec 32) : List (BitVec 8) := [s.setWidth 8, (s >>> 8).setWidth 8, (s >>> 16).setWidth 8, (s >>> 24).setWidth 8]
def sealC (bs : List (BitVec 8)) : List (BitVec 8) := bs ++ tailL (addC 0 bs)
set_option maxHeartbeats 400000
theorem sum_c (ps : List Pt) (A : Option Addr) (c : Nat) (w : World) (hr : Rd Pt.v w w.heap.size A ps) (hp : ∀ p ∈ ps, Rd b8 w w.heap.size p.1 p.2.1 ∧ p.2.1.length ≤ 2147483648) (hl : ps.length ≤ 2147483648) :
    Calls Try.prog 63 #[.slice A ps.length c] w (RetP (.int .u32 (U32 (sumC (ps.map Pt.l)))) w) := by
  have HP := Lib.hid hp
  clear hp
  go_enter Try.func63, Try.ntmps63
  go_wp2
  go_loopw [3, 5, 8] (fun r _ i wr => ∃ k : Nat, k ≤ ps.length ∧ i = .int .i64 k ∧ r = .int .u32 (U32 (sumC ((ps.map Pt.l).take k))) ∧ Below w.heap.size w wr) (fun _ _ i _ => ps.length - (intOf i).toNat)
  case atStart => exact ⟨0, by omega, rfl, rfl, Below.refl _ _⟩
  case round =>
    obtain ⟨k, hk', rfl, rfl, hb⟩ := hrel
    by_cases hlt : k < ps.length
    · obtain ⟨ad, rfl, _, hc⟩ := (hr.below hb).at_ hlt
      obtain ⟨hq, hq2⟩ := HP.out ps[k] (List.getElem_mem _)
      have hcs : (ps.map Pt.l).take (k + 1) = (ps.map Pt.l).take k ++ [ps[k].l] := by rw [take_snoc' _ _ (by simpa using hlt), List.getElem_map]
      obtain ⟨q, hqq⟩ : ∃ q, q = ps[k] := ⟨_, rfl⟩
      rw [← hqq] at hc hq hq2 hcs
      obtain ⟨qa, ql, qc⟩ := q
      change wr.cell? (ad.add k) = some (.slice qa ql.length qc) at hc
      have HCS := Lib.hid hcs
      clear hcs hqq
      go_wp2_with fail
      refine (add_c _ ql qa qc wr ((hq.below hb).more hb.size) hq2).mono ?_
      rintro e w2 ⟨rfl, hb2⟩
      go_wp2_with fail
      go_roundw
      case rel => exact ⟨k + 1, by omega, by go_num, by rw [HCS.out, sumC_snoc]; rfl, hb.trans (hb2.mono hb.size)⟩
      case measure => (first | (simp [intOf]; done) | (simp [intOf]; omega))
    · have hkk : (ps.map Pt.l).take k = ps.map Pt.l := List.take_of_length_le (by simp; omega)
      rw [hkk]
      clear hkk
      go_wp2
      go_ret
      exact ret_i rfl hb
theorem ret_cells' {v v' : Value} {w w' : World} (h : v = v') (hb : Below w.heap.size w w') : RetP v' w (.returned v) w' := ⟨by rw [h], hb⟩
theorem m8_0 (s : BitVec 32) : U32 s % 256 = U8 (s.setWidth 8) := by
  rw [← u32_u8]; simp [IntKind.wrap, IntKind.bits, IntKind.signed]
theorem sh8 (s : BitVec 32) : U32 s / (256 : Int) = U32 (s >>> 8) := by rw [show (256 : Int) = 2 ^ 8 from by decide, shrU32]
theorem sh16 (s : BitVec 32) : U32 s / (65536 : Int) = U32 (s >>> 16) := by rw [show (65536 : Int) = 2 ^ 16 from by decide, shrU32]
theorem sh24 (s : BitVec 32) : U32 s / (16777216 : Int) = U32 (s >>> 24) := by rw [show (16777216 : Int) = 2 ^ 24 from by decide, shrU32]
attribute [local go_sem] m8_0 sh8 sh16 sh24 u32_u8
theorem tail_c (s : BitVec 32) (w : World) : Calls Try.prog 62 #[.int .u32 (U32 s)] w (RetP (.agg #[.int .u8 (U8 (s.setWidth 8)), .int .u8 (U8 ((s >>> 8).setWidth 8)), .int .u8 (U8 ((s >>> 16).setWidth 8)), .int .u8 (U8 ((s >>> 24).setWidth 8))]) w) := by
  go_enter Try.func62, Try.ntmps62
  go_wp2
  exact bodyPost_ret (v := .agg #[.int .u8 (U8 (s.setWidth 8)), .int .u8 (U8 ((s >>> 8).setWidth 8)), .int .u8 (U8 ((s >>> 16).setWidth 8)), .int .u8 (U8 ((s >>> 24).setWidth 8))]) (by simp [results, Try.results62, go_sem]) rfl (ret_cells' rfl (by repeat (first | with_reducible assumption | with_reducible exact Below.refl _ _ | with_reducible apply bdN | with_reducible apply Below.drew | with_reducible refine Below.alloc ?_ (by simp) _ | with_reducible refine Below.setCell ?_ (by simp) _)))
/-- 'make([]T, 0, n)'. -/
theorem wp_make0 {P : Program} {α : Type} {f : α → Value} {t e : TypeId} {z : Value} {bytes : Nat} {w : World} {ops : Array Oper} {rest : List Oper} {o : Oper} {a : Act} {Q : Exit → Act → World → Prop} (one : One P t e z bytes) (hgd : o.guard = none) (l c : Operand) (hop : o.op = Op.makeSlice t l c)
    (base n : Nat) (kl kc : IntKind) (C : Int) (hl : a.eval l = .int kl 0) (hc : a.eval c = .int kc C) (hC : C = (n : Int)) (hn : n ≤ 4294967296) (hby : bytes ≤ 32768) (hbase : base ≤ w.heap.size)
    (h : ∀ w', Ow f e w' base (.slice (some ⟨w.heap.size, 0, none⟩) 0 n) [] → Below w.heap.size w w' → wpList P ops Q rest (a.put o.dst (.slice (some ⟨w.heap.size, 0, none⟩) 0 n)) w') :
    wpList P ops Q (o :: rest) a w := by
  obtain ⟨i, hi, hz, hsize, hbytes⟩ := one.info
  have hbb : i.bytes * n ≤ 281474976710656 := by
    rw [hbytes]
    have := Nat.mul_le_mul hby hn
    omega
  refine wpList_make_own w hgd l c t hop base e i z 1 one.under hi hz hsize kl kc C n hl hc hC hbb (by simp only [maxLen]; omega) hbase ?_
  intro w' ho hg
  exact h w' ho ((Below.refl _ _).grown hg (Nat.le_refl _) (by simp))
theorem Bk.grown {w w' : World} {g : Nat} {E : TypeId} {cs : Array Value} {row : Option Nat} (h : Bk w g E cs) (hg : w.grownBy w' row) (hne : some g ≠ row) : Bk w' g E cs := (hg.block g h.lt hne).trans h
theorem sum1_c (bs : List (BitVec 8)) (A : Option Addr) (c g : Nat) (w : World) (E : TypeId) (hk : Bk w g E #[.slice A bs.length c]) (hr : Rd b8 w w.heap.size A bs) (hl : bs.length ≤ 2147483648) :
    Calls Try.prog 63 #[.slice (some ⟨g, 0, none⟩) 1 1] w (RetP (.int .u32 (U32 (addC 0 bs))) w) := by
  refine sum_c [((A, bs, c) : Pt)] (some ⟨g, 0, none⟩) 1 w (hk.rd rfl hk.lt) ?_ (by simp)
  intro p hp
  rw [List.mem_singleton] at hp
  subst hp
  exact ⟨hr, hl⟩
theorem seal_c (bs : List (BitVec 8)) (A : Option Addr) (c : Nat) (w : World) (hr : Rd b8 w w.heap.size A bs) (hl : bs.length ≤ 1073741824) :
    Calls Try.prog 55 #[.slice A bs.length c] w (MkP b8 5 (sealC bs) w) := by
  have hbk := Bk.new w 22 #[.slice A bs.length c]
  go_enter Try.func55, Try.ntmps55
  go_wp2_with fail
  refine (sum1_c bs A c w.heap.size _ _ hbk ((hr.alloc (Nat.le_refl _) _).more (by simp)) (by omega)).mono ?_
  rintro e w1 ⟨rfl, hb1⟩
  have hB1 : Below w.heap.size w w1 := ((Below.refl _ _).alloc (Nat.le_refl _) _).trans (hb1.mono (by simp))
  clear hb1 hbk
  go_wp2_with fail
  refine (tail_c _ _).mono ?_
  rintro e w2 ⟨rfl, hb2⟩
  have hB2 := hB1.trans (hb2.mono hB1.size)
  clear hb2 hB1
  have hk2 := Bk.new w2 107 #[.int .u8 (U8 ((addC 0 bs).setWidth 8)), .int .u8 (U8 (((addC 0 bs) >>> 8).setWidth 8)), .int .u8 (U8 (((addC 0 bs) >>> 16).setWidth 8)), .int .u8 (U8 (((addC 0 bs) >>> 24).setWidth 8))]
  have hB2' := hB2.alloc hB2.size (.cells #[.int .u8 (U8 ((addC 0 bs).setWidth 8)), .int .u8 (U8 (((addC 0 bs) >>> 8).setWidth 8)), .int .u8 (U8 (((addC 0 bs) >>> 16).setWidth 8)), .int .u8 (U8 (((addC 0 bs) >>> 24).setWidth 8))] 107)
  go_wp2_with (first
    | (at_make; refine wp_make0 (f := b8) one8 rfl _ _ rfl w.heap.size (bs.length + 4) _ _ _ rfl rfl (by simp) (by omega) (by decide) hB2'.size ?_; intro w3 ho3 hb3; simp only [World.size_alloc] at ho3; have hk3 := hk2.below hb3 hk2.lt; have hB3 := hB2'.trans (hb3.mono hB2'.size))
    | (at_builtin; refine wp_app one8 b8_one rfl (.tmp 13) (.tmp 14) rfl w.heap.size _ [] rfl ho3 A bs.length c bs rfl rfl w.heap.size (hr.below hB3) (by simp; omega) (by decide) hB3.size ?_; intro v4 w4 ho4 hb4 hg4 _; have hk4 := hk3.grown hg4 (by simp [Value.ownBlock, Act.eval]); have hB4 := hB3.trans hb4)
    | (at_builtin; refine wp_app one8 b8_one rfl (.tmp 16) (.tmp 17) rfl w.heap.size v4 ([] ++ bs) rfl ho4 (some ⟨w2.heap.size, 0, none⟩) 4 4 (tailL (addC 0 bs)) rfl rfl w4.heap.size (hk4.rd rfl hk4.lt) (by simp [tailL]; omega) (by decide) hB4.size ?_; intro v5 w5 ho5 hb5 _ _)
    )
  go_ret
  exact MkP.of (by simpa [sealC] using ho5) (hB4.trans hb5)
end Go.Proofs.Ytjcpbhjmmnpjnaa
/- A region whose operations are loads and reckonings, which float, and a row of others (calls, appends, stores) that wait for each other: the floating ones have known values, the row is straight code. No conditions. -/
namespace Go.Proofs.Ytjcpbhjmmnpjnaa
set_option linter.unusedVariables false
set_option linter.unusedSimpArgs false
open Go.RowKit
section
variable {P : Program} {ops : Array Oper} {Q : Exit → Act → World → Prop} {a0 : Act} {w0 : World}
/-- Operations one behind the other; W holds of each world between. -/
def SpineW (P : Program) (ops : Array Oper) (Q : Exit → Act → World → Prop) (W : World → Prop) : List Nat → Act → World → Prop
  | [], a, w => Q .normal a w
  | i :: is, a, w => ∃ o, ops[i]? = some o ∧ o.guard = none ∧ Oper.wp P o a w (fun a' w' => a'.defers = a.defers ∧ W w' ∧ SpineW P ops Q W is a' w') NoQ
def operandsOf (ops : Array Oper) (i : Nat) : List Tmp := match ops[i]? with
  | none => []
  | some o => o.op.operands.toList.filterMap fun | .tmp t => some t | _ => none
def chainB (ops : Array Oper) : List Nat → Bool
  | x :: y :: l => waitsB ops y x && chainB ops (y :: l)
  | _ => true
def slotsB (ops : Array Oper) (fl : List Nat) (j : Nat) : Bool := match dstOf ops j with
  | none => false
  | some d => slotB ops fl j d
def spineB (ops : Array Oper) (sp fl : List Nat) : Bool :=
  chainB ops sp && ((List.range ops.size).all fun i => sp.contains i || fl.contains i) && (fl.all fun j => !sp.contains j && decide (j < ops.size) && ((ops[j]?).bind (·.guard)).isNone && slotsB ops fl j) && (sp.all fun i => decide (i < ops.size)) && decide (sp.Nodup) &&
  (fl.all fun i => (operandsOf ops i).all fun t => (fl.any fun j => waitsB ops i j && dstOf ops j == some t) || ((fl.all fun j => dstOf ops j != some t) && sp.all fun j => dstOf ops j != some t || waitsB ops j i)) &&
  (sp.all fun i => (operandsOf ops i).all fun t => fl.all fun j => dstOf ops j != some t || waitsB ops i j)
theorem wp_two {o : Oper} {A a : Act} {w : World} {K K2 : Act → World → Prop} (he : execOp A.eval o = execOp a.eval o)
    (h : Oper.wp P o A w (fun a' w' => a'.defers = A.defers ∧ K a' w') NoQ) (hk : ∀ v w', K (A.put o.dst v) w' → K2 (a.put o.dst v) w') : Oper.wp P o a w K2 Q := by
  unfold Oper.wp at *
  rw [← he]
  generalize (execOp A.eval o).run P w = r at *
  cases r with
  | ok n w' =>
    cases n <;> simp only [Oper.upon] at h ⊢
    case value u => exact hk _ _ h.2
    case skip => exact hk _ _ h.2
    case defer d =>
      exfalso
      have := h.1
      cases hd : o.dst <;> simp [Act.put, hd] at this
    case enter f args =>
      refine Calls.mono h fun e w'' he => ?_
      cases e with
      | returned u => exact hk _ _ he.2
      | panicked c => exact he.elim
      | outgrown => obtain ⟨_, _, hf⟩ := he; exact hf.elim
    case row row args => exact Rows.mono h fun u w'' he => hk _ _ he.2
  | halt x w' =>
    cases x <;> simp only [Oper.upon] at h ⊢
    case panic u => exact h.elim
def SpineQ (df : List Deferred) (W : World → Prop) (next : Act → World → Prop) : Exit → Act → World → Prop
  | .normal, a, w => a.defers = df ∧ W w ∧ next a w
  | _, _, _ => False
/-- One of the row, as straight code. -/
theorem spine_list {i : Nat} {is : List Nat} {W : World → Prop} {d : Option Tmp} {op : Op} {type : TypeId} {a : Act} {w : World} (ho : (ops[i]?).map (fun o => (o.op, o.type)) = some (op, type)) (hdo : (ops[i]?).map (·.dst) = some d) (hg : (ops[i]?).bind (·.guard) = none)
    (h : wpList P #[{ dst := d, op, type, pos := "", after := #[], guard := none }] (SpineQ a.defers W (SpineW P ops Q W is)) [{ dst := d, op, type, pos := "", after := #[], guard := none }] a w) : SpineW P ops Q W (i :: is) a w := by
  cases hi : ops[i]? with
  | none => rw [hi] at ho; cases ho
  | some o =>
    rw [hi] at ho hdo hg
    obtain ⟨dst, op', type', pos, after, guard⟩ := o
    simp only [Option.map_some, Option.some.injEq, Prod.mk.injEq] at ho hdo
    obtain ⟨rfl, rfl⟩ := ho
    subst hdo
    simp only [Option.bind_some] at hg
    subst hg
    refine ⟨_, hi, rfl, ?_⟩
    unfold wpList at h
    simp only [Region.wanted, if_true] at h
    have he : execOp a.eval { dst, op := op', type := type', pos, after, guard := none } = execOp a.eval { dst, op := op', type := type', pos := "", after := #[], guard := none } := by
      cases op' <;> rfl
    rcases h with h | ⟨_, h2⟩
    · unfold Oper.wp at h ⊢
      rw [he]
      generalize (execOp a.eval { dst, op := op', type := type', pos := "", after := #[], guard := none }).run P w = r at *
      cases r with
      | ok n w' =>
        cases n <;> simp only [Oper.upon, wpList] at h ⊢
        case value u => exact h
        case skip => exact h
        case defer u => exact h
        case enter f args =>
          refine Calls.mono h fun e w'' he => ?_
          cases e with
          | returned u => exact he
          | panicked c => exact he.elim
          | outgrown => obtain ⟨_, _, hf⟩ := he; exact hf.elim
        case row row args => exact h
      | halt x w' =>
        cases x <;> simp only [Oper.upon] at h ⊢
        case panic u => exact h.elim
    · obtain ⟨_, _, h3⟩ := h2
      exact h3.elim
theorem regB_plain {size : Nat} (h : regB ops size = true) {i : Nat} {o : Oper} (ho : ops[i]? = some o) : match o.op with | .defer _ => False | .select .. => False | _ => True := by
  unfold regB at h
  rw [List.all_eq_true] at h
  have h1 := h i (List.mem_range.2 (Array.getElem?_eq_some_iff.1 ho).1)
  rw [ho] at h1
  simp only [Bool.and_eq_true] at h1
  have h2 := h1.2
  revert h2
  cases o.op <;> simp
theorem chain_at {l : List Nat} : ∀ {d : List Nat} {x y : Nat}, chainB ops (d ++ x :: y :: l) = true → waitsB ops y x = true := by
  intro d
  induction d with
  | nil => intro x y h; unfold chainB at h; rw [List.nil_append] at h; simp only [Bool.and_eq_true] at h; exact h.1
  | cons z d ih =>
    intro x y h
    apply ih (x := x) (y := y)
    cases d with
    | nil => simp only [List.cons_append, List.nil_append, chainB, Bool.and_eq_true] at h ⊢; exact h.2
    | cons u d => simp only [List.cons_append, chainB, Bool.and_eq_true] at h ⊢; exact h.2
theorem region_spine {id : Nat} (sp fl : List Nat) (c : Nat → Value) (W : World → Prop) (hm : P.follows .mixedOrders = true) (hreg : regB ops a0.tmps.size = true) (hsp : spineB ops sp fl = true) (hW : W w0.drew)
    (hF : ∀ i ∈ fl, ∀ w, W w → ∃ o, ops[i]? = some o ∧ (execOp (putL ops c fl a0).eval o).run P w = .ok (.value (c i)) w)
    (fin : SpineW P ops Q W sp (putL ops c fl a0) w0.drew) : (Code.region id ops true).wp P Q a0 w0 := by
  unfold spineB at hsp
  simp only [Bool.and_eq_true, List.all_eq_true, List.mem_range, decide_eq_true_eq, Bool.or_eq_true, List.contains_iff_mem, Bool.not_eq_true', Bool.not_eq_eq_eq_not, Bool.not_true] at hsp
  obtain ⟨⟨⟨⟨⟨⟨hch, hcov⟩, hfl⟩, hspl⟩, hnd⟩, hfo⟩, hso⟩ := hsp
  have hflsp : ∀ j ∈ fl, j ∉ sp := fun j hj h => by
    have := (hfl j hj).1.1.1
    rw [List.contains_eq_mem] at this
    simp [h] at this
  have getT : ∀ (l : Array Bool) (k : Nat) (b c : Bool), k < l.size → l.getD k b = l.getD k c := by
    intro l k b c hk
    rw [Array.getD_eq_getD_getElem?, Array.getD_eq_getD_getElem?, Array.getElem?_eq_getElem hk]; rfl
  have hdst : ∀ i, i < ops.size → ∃ d, dstOf ops i = some d ∧ d < a0.tmps.size ∧ ∀ j, j < ops.size → j ≠ i → dstOf ops j ≠ some d := by
    intro i hi
    obtain ⟨o2, d, ho2, hd2, hdl, hdd, _⟩ := regB_at hreg hi
    exact ⟨d, by unfold dstOf; rw [ho2]; exact hd2, hdl, hdd⟩
  have hA0 : ∀ j ∈ fl, valAt ops (putL ops c fl a0) j = c j := by
    intro j hj
    obtain ⟨d, hd, hdl, _⟩ := hdst j (hfl j hj).1.1.2
    have hs := (hfl j hj).2
    unfold slotsB at hs
    rw [hd] at hs
    unfold valAt
    rw [hd]
    exact slotJ fl hdl hs
  have hout : ∀ t, (∀ j ∈ fl, dstOf ops j ≠ some t) → (putL ops c fl a0).tmps.getD t undef = a0.tmps.getD t undef := by
    intro t ht
    exact slotO fl (List.all_eq_true.2 fun k hk => by simpa using ht k hk)
  have main : ∀ (fuel : Nat) (listed : Array Bool) (a : Act) (w : World) (dn rest : List Nat) (A : Act), listed.size = ops.size →
      ((List.range ops.size).filter fun j => !listed.getD j true).length ≤ fuel →
      W w → SpineW P ops Q W rest A w → sp = dn ++ rest → (∀ i ∈ dn, listed.getD i true = true) → (∀ i ∈ rest, listed.getD i true = false) → a.defers = A.defers → a.tmps.size = A.tmps.size → A.tmps.size = a0.tmps.size →
      (∀ j ∈ fl, valAt ops A j = c j) → (∀ t, (∀ j ∈ dn, dstOf ops j ≠ some t) → (∀ j ∈ fl, dstOf ops j ≠ some t) → A.tmps.getD t undef = a0.tmps.getD t undef) → (∀ j ∈ dn, ∀ k, waitsB ops j k = true → listed.getD k true = true) →
      (∀ t, a.tmps.getD t undef = A.tmps.getD t undef ∨ ∃ j ∈ fl, listed.getD j true = false ∧ dstOf ops j = some t) →
      wpAny P .any ops Q fuel listed a w := by
    intro fuel
    have allUp : ∀ (listed : Array Bool), listed.size = ops.size → Region.ready .any ops listed = [] → ∀ j, j < ops.size → listed.getD j true = true := by
      intro listed hsz hr j
      induction j using Nat.strongRecOn with
      | ind j ih =>
        intro hj
        cases hl : listed.getD j true with
        | true => rfl
        | false =>
          exfalso
          obtain ⟨o, d, ho, _, _, _, he⟩ := regB_at hreg hj
          have : j ∈ Region.ready .any ops listed := mem_ready.2 ⟨hl, o, ho, fun e hem hb => by
            have hlt := he e hem hb
            have := ih e.on hlt (by omega)
            rw [Array.getD_eq_getD_getElem?] at this ⊢
            rw [Array.getElem?_eq_getElem (by omega)] at this ⊢
            exact this⟩
          rw [hr] at this
          cases this
    have done : ∀ (listed : Array Bool) (a : Act) (w : World) (dn rest : List Nat) (A : Act), (∀ j, j < ops.size → listed.getD j true = true) → SpineW P ops Q W rest A w → sp = dn ++ rest → (∀ i ∈ rest, listed.getD i true = false) →
        a.defers = A.defers → a.tmps.size = A.tmps.size → (∀ t, a.tmps.getD t undef = A.tmps.getD t undef ∨ ∃ j ∈ fl, listed.getD j true = false ∧ dstOf ops j = some t) → Q .normal a w := by
      intro listed a w dn rest A hall hS hdn hrest hd hs hrel
      cases rest with
      | cons i is =>
        have h1 := hrest i (.head _)
        rw [hall i (hspl i (by rw [hdn]; simp))] at h1
        cases h1
      | nil =>
        have h1 := putL_whole (ops := ops) A [] a hs hd (fun t => by
          rcases hrel t with h | ⟨j, hj, h1, _⟩
          · exact .inl h
          · rw [hall j (hfl j hj).1.1.2] at h1; cases h1)
        unfold putL at h1
        rw [h1]
        exact hS
    induction fuel with
    | zero =>
      intro listed a w dn rest A hsz hcnt hw hS hdn hdl hrest hd hs hs0 hv ho hC hrel
      have hall : ∀ j, j < ops.size → listed.getD j true = true := by
        intro j hj
        cases hl : listed.getD j true with
        | true => rfl
        | false =>
          have : j ∈ (List.range ops.size).filter fun j => !listed.getD j true := List.mem_filter.2 ⟨List.mem_range.2 hj, by simp only [hl]; rfl⟩
          rw [List.eq_nil_of_length_eq_zero (Nat.le_zero.1 hcnt)] at this
          cases this
      refine ⟨?_, done listed a w dn rest A hall hS hdn hrest hd hs hrel⟩
      apply List.eq_nil_iff_forall_not_mem.2
      intro j hj
      obtain ⟨h1, o, ho, _⟩ := mem_ready.1 hj
      have hlt : j < ops.size := (Array.getElem?_eq_some_iff.1 ho).1
      rw [hall j hlt] at h1
      cases h1
    | succ fuel ih =>
      intro listed a w dn rest A hsz hcnt hw hS hdn hdl hrest hd hs hs0 hv ho hC hrel
      refine ⟨fun hr => done listed a w dn rest A (allUp listed hsz hr) hS hdn hrest hd hs hrel, fun i hi => ?_⟩
      obtain ⟨hui, o, hoi, hall⟩ := mem_ready.1 hi
      have hlt : i < ops.size := (Array.getElem?_eq_some_iff.1 hoi).1
      have hlz : i < listed.size := by omega
      have hwt : ∀ j, waitsB ops i j = true → listed.getD j true = true := by
        intro j hj
        obtain ⟨o', ho', e, he, hb, rfl⟩ := waits_some hj
        rw [hoi] at ho'
        injection ho' with ho'
        subst ho'
        have h1 := hall e he hb
        rcases Nat.lt_or_ge e.on listed.size with hl | hl
        · rw [getT _ _ true false hl]
          exact h1
        · rw [Array.getD_eq_getD_getElem?, Array.getElem?_eq_none hl] at h1; cases h1
      have hset : ∀ j b, (listed.setIfInBounds i true).getD j b = if j = i then true else listed.getD j b := by
        intro j b
        rw [Array.getD_eq_getD_getElem?, Array.getD_eq_getD_getElem?, Array.getElem?_setIfInBounds]
        by_cases e : i = j
        · subst e; simp [hlz]
        · rw [if_neg e, if_neg (fun h => e h.symm)]
      have hcnt' : ((List.range ops.size).filter fun j => !(listed.setIfInBounds i true).getD j true).length ≤ fuel := by
        have := filter_less (p := fun j => !listed.getD j true) (q := fun j => !(listed.setIfInBounds i true).getD j true) (i := i) (l := List.range ops.size) (fun x hx => by
          rw [hset] at hx
          by_cases e : x = i
          · rw [if_pos e] at hx; cases hx
          · rw [if_neg e] at hx; exact hx) (List.mem_range.2 hlt) (by rw [hui]; rfl) (by rw [hset, if_pos rfl]; rfl)
        omega
      obtain ⟨d, hdo, hdlt, hdd⟩ := hdst i hlt
      have hops : operandsOf ops i = o.op.operands.toList.filterMap fun | .tmp t => some t | _ => none := by unfold operandsOf; rw [hoi]
      have hndf : match o.op with | .defer _ => False | .select .. => False | _ => True := regB_plain hreg hoi
      have hdo' : o.dst = some d := by unfold dstOf at hdo; rw [hoi] at hdo; exact hdo
      have hcong : ∀ B : Act, (∀ t ∈ operandsOf ops i, B.tmps.getD t undef = a.tmps.getD t undef) → execOp B.eval o = execOp a.eval o := by
        intro B hB
        refine execOp_congr o (fun cs b e => by rw [e] at hndf; exact hndf) fun x hx => ?_
        cases x with
        | tmp t => exact hB t (by rw [hops]; exact List.mem_filterMap.2 ⟨.tmp t, by simpa using hx, rfl⟩)
        | _ => rfl
      have hval : ∀ (B : Act) (v : Value), B.tmps.size = a0.tmps.size → valAt ops (B.put o.dst v) i = v := by
        intro B v hB
        unfold valAt
        rw [hdo, hdo']
        exact put_same _ _ _ (by rw [hB]; exact hdlt)
      by_cases hf1 : i ∈ fl
      · -- one that floats
        have hg := (hfl i hf1).1.2
        rw [hoi, Option.bind_some, Option.isNone_iff_eq_none] at hg
        obtain ⟨o3, ho3, hrun⟩ := hF i hf1 w hw
        rw [hoi] at ho3
        injection ho3 with ho3
        subst ho3
        have hA0a : ∀ t ∈ operandsOf ops i, (putL ops c fl a0).tmps.getD t undef = a.tmps.getD t undef := by
          intro t ht
          rcases hfo i hf1 t ht with h | h
          · rw [List.any_eq_true] at h
            obtain ⟨j, hj, h⟩ := h
            rw [Bool.and_eq_true, beq_iff_eq] at h
            have h1 := hA0 j hj
            have h2 := hv j hj
            unfold valAt at h1 h2
            rw [h.2] at h1 h2
            rcases hrel t with h3 | ⟨k, hk, h3, h4⟩
            · rw [h3]; exact h1.trans h2.symm
            · exfalso
              obtain ⟨dj, hdj, _, hdd2⟩ := hdst j (hfl j hj).1.1.2
              rw [h.2] at hdj
              injection hdj with hdj
              subst hdj
              have hkj : k = j := by
                apply Classical.byContradiction
                intro hne
                exact hdd2 k (hfl k hk).1.1.2 hne h4
              rw [hkj, hwt j h.1] at h3
              cases h3
          · have h' : ∀ j ∈ fl, dstOf ops j ≠ some t := fun j hj => by simpa using h.1 j hj
            rw [hout t h', ← ho t (fun j hj e => by
              rcases h.2 j (by rw [hdn]; exact List.mem_append_left _ hj) with h5 | h5
              · exact absurd e (by simpa using h5)
              · have := hC j hj i h5
                rw [hui] at this
                cases this) h']
            rcases hrel t with h3 | ⟨k, hk, _, h4⟩
            · exact h3.symm
            · exact absurd h4 (h' k hk)
        have hrun' : (execOp a.eval o).run P w = .ok (.value (c i)) w := by rw [← hcong _ hA0a]; exact hrun
        unfold wpOp
        rw [hoi]
        simp only [Region.wanted, hg, if_true]
        left
        unfold Oper.wp
        rw [hrun']
        simp only [Oper.upon]
        refine ih (listed.setIfInBounds i true) (a.put o.dst (c i)) w dn rest A (by simp [hsz]) hcnt' hw hS hdn (fun x hx => by rw [hset]; split; rfl; exact hdl x hx) ?_ ?_ (by rw [put_size, hs]) hs0 hv ho (fun j hj k hk => by rw [hset]; split; rfl; exact hC j hj k hk) ?_
        · intro x hx
          rw [hset, if_neg (fun e => hflsp i hf1 (by rw [hdn, ← e]; exact List.mem_append_right _ hx))]
          exact hrest x hx
        · rw [← hd]; cases o.dst <;> rfl
        · intro t
          by_cases e : dstOf ops i = some t
          · left
            have h2 := hv i hf1
            unfold valAt at h2
            rw [e] at h2
            rw [hdo] at e
            injection e with e
            subst e
            rw [hdo', put_same _ _ _ (by rw [hs, hs0]; exact hdlt)]
            exact h2.symm
          · rw [put_other _ _ _ _ (by rw [hdo', ← hdo]; exact e)]
            rcases hrel t with h3 | ⟨k, hk, h3, h4⟩
            · exact .inl h3
            · refine .inr ⟨k, hk, ?_, h4⟩
              rw [hset, if_neg (fun e2 => e (by rw [← e2]; exact h4))]
              exact h3
      · -- one of the row
        have hs1 : i ∈ sp := by
          rcases hcov i hlt with h | h
          · exact h
          · exact absurd h hf1
        have hhead : ∃ is, rest = i :: is := by
          have hmem : i ∈ dn ++ rest := by rw [← hdn]; exact hs1
          rcases List.mem_append.1 hmem with h | h
          · rw [hdl i h] at hui; cases hui
          · cases rest with
            | nil => cases h
            | cons x is =>
              by_cases e : i = x
              · exact ⟨is, by rw [e]⟩
              · exfalso
                have hmi : i ∈ is := by
                  rcases List.mem_cons.1 h with h | h
                  · exact absurd h e
                  · exact h
                obtain ⟨u, t, hut⟩ := List.append_of_mem hmi
                obtain ⟨pre, y, hy⟩ : ∃ pre y, x :: u = pre ++ [y] := ⟨(x :: u).dropLast, (x :: u).getLast (by simp), (List.dropLast_concat_getLast (by simp)).symm⟩
                have hsp2 : sp = (dn ++ pre) ++ y :: i :: t := by
                  rw [hdn, hut, ← List.cons_append, hy]
                  simp
                have hwy : waitsB ops i y = true := chain_at (d := dn ++ pre) (l := t) (by rw [← hsp2]; exact hch)
                have hyr : y ∈ x :: is := by
                  rw [hut, ← List.cons_append, hy]
                  simp
                have := hrest y hyr
                rw [hwt y hwy] at this
                cases this
        obtain ⟨is, rfl⟩ := hhead
        obtain ⟨o3, ho3, hg, hwp⟩ := hS
        rw [hoi] at ho3
        injection ho3 with ho3
        subst ho3
        have hAa : ∀ t ∈ operandsOf ops i, A.tmps.getD t undef = a.tmps.getD t undef := by
          intro t ht
          rcases hrel t with h3 | ⟨k, hk, h3, h4⟩
          · exact h3.symm
          · exfalso
            rcases hso i hs1 t ht k hk with h | h
            · exact absurd h4 (by simpa using h)
            · rw [hwt k h] at h3; cases h3
        unfold wpOp
        rw [hoi]
        simp only [Region.wanted, hg, if_true]
        left
        refine wp_two (hcong A hAa) hwp ?_
        rintro v w' ⟨hw', hS'⟩
        refine ih (listed.setIfInBounds i true) (a.put o.dst v) w' (dn ++ [i]) is (A.put o.dst v) (by simp [hsz]) hcnt' hw' hS' (by rw [hdn]; simp) (fun x hx => by
          rw [hset]
          split
          · rfl
          · rename_i hne
            rcases List.mem_append.1 hx with h | h
            · exact hdl x h
            · exact absurd (by simpa using h) hne) ?_ ?_ (by rw [put_size, put_size, hs]) (by rw [put_size, hs0]) ?_ ?_ ?_ ?_
        · intro x hx
          have hne : x ≠ i := by
            intro e
            subst e
            rw [hdn] at hnd
            have := (List.nodup_append.1 hnd).2.1
            exact (List.nodup_cons.1 this).1 hx
          rw [hset, if_neg hne]
          exact hrest x (.tail _ hx)
        · cases o.dst <;> exact hd
        · intro j hj
          rw [← hv j hj]
          unfold valAt
          cases hjd : dstOf ops j with
          | none => rfl
          | some dj =>
            simp only
            refine put_other _ _ _ _ ?_
            rw [hdo']
            intro e
            have hji : j ≠ i := fun e2 => hf1 (by rw [← e2]; exact hj)
            exact hdd j (hfl j hj).1.1.2 hji (by rw [hjd]; exact e.symm)
        · intro t ht ht2
          rw [put_other _ _ _ _ (by rw [hdo', ← hdo]; exact ht i (by simp))]
          exact ho t (fun j hj => ht j (List.mem_append_left _ hj)) ht2
        · intro j hj k hk
          rw [hset]
          split
          · rfl
          · rcases List.mem_append.1 hj with h | h
            · exact hC j h k hk
            · have : j = i := by simpa using h
              subst this
              exact hwt k hk
        · intro t
          by_cases e : o.dst = some t
          · left
            rw [e]
            rw [hdo'] at e
            injection e with e
            subst e
            rw [put_same _ _ _ (by rw [hs, hs0]; exact hdlt), put_same _ _ _ (by rw [hs0]; exact hdlt)]
          · rw [put_other _ _ _ _ e, put_other _ _ _ _ e]
            rcases hrel t with h3 | ⟨k, hk, h3, h4⟩
            · exact .inl h3
            · refine .inr ⟨k, hk, ?_, h4⟩
              rw [hset, if_neg (fun e2 => hf1 (by rw [← e2]; exact hk))]
              exact h3
  refine wp_region_any hm ?_
  refine main ops.size (Array.replicate ops.size false) a0 w0.drew [] sp (putL ops c fl a0) (by simp) ?_ hW fin rfl (fun x hx => by cases hx) ?_ (putL_defers c fl a0).symm (putL_size c fl a0).symm (putL_size c fl a0) hA0 (fun t _ h => hout t h) (fun j hj => by cases hj) ?_
  · exact Nat.le_trans (List.length_filter_le _ _) (by simp)
  · intro i hi
    rw [Array.getD_eq_getD_getElem?, Array.getElem?_eq_getElem (by simpa using hspl i hi)]
    simp
  · intro t
    by_cases e : ∃ j ∈ fl, dstOf ops j = some t
    · obtain ⟨j, hj, hjd⟩ := e
      refine .inr ⟨j, hj, ?_, hjd⟩
      rw [Array.getD_eq_getD_getElem?, Array.getElem?_eq_getElem (by simpa using (hfl j hj).1.1.2)]
      simp
    · left
      exact (slotO fl (List.all_eq_true.2 fun k hk => by
        have : dstOf ops k ≠ some t := fun h => e ⟨k, hk, h⟩
        simpa using this)).symm
def putA : List (Nat × Tmp × Value) → Act → Act
  | [], a => a
  | x :: l, a => putA l (a.put (some x.2.1) x.2.2)
def valOf (fl : List (Nat × Tmp × Value)) (i : Nat) : Value := ((fl.find? fun y => y.1 == i).map (·.2.2)).getD undef
theorem valOf_mem : ∀ (fl : List (Nat × Tmp × Value)), (fl.map (·.1)).Nodup → ∀ x ∈ fl, valOf fl x.1 = x.2.2
  | [], _, x, h => by cases h
  | y :: l, hn, x, h => by
    rw [List.map_cons, List.nodup_cons] at hn
    unfold valOf
    rw [List.find?_cons]
    by_cases e : y.1 = x.1
    · have hx : x = y := by
        rcases List.mem_cons.1 h with h | h
        · exact h
        · exact absurd (by rw [e]; exact List.mem_map_of_mem h) hn.1
      subst hx
      simp
    · have e2 : (y.1 == x.1) = false := by simpa using e
      rw [e2]
      simp only
      rcases List.mem_cons.1 h with h | h
      · exact absurd (by rw [h]) e
      · exact valOf_mem l hn.2 x h
theorem putL_putA (c : Nat → Value) : ∀ (fl : List (Nat × Tmp × Value)) (a : Act), (∀ x ∈ fl, c x.1 = x.2.2 ∧ dstOf ops x.1 = some x.2.1) → putL ops c (fl.map (·.1)) a = putA fl a
  | [], a, _ => rfl
  | x :: l, a, h => by
    rw [List.map_cons]
    unfold putL putA
    rw [(h x (.head _)).1, (h x (.head _)).2]
    exact putL_putA c l _ fun y hy => h y (.tail _ hy)
/-- region_spine, by a list of places, slots and values. -/
theorem region_by_spine {id : Nat} (sp : List Nat) (fl : List (Nat × Tmp × Value)) (W : World → Prop) (hm : P.follows .mixedOrders = true) (hreg : regB ops a0.tmps.size = true) (hsp : spineB ops sp (fl.map (·.1)) = true)
    (hd : (fl.map fun x => dstOf ops x.1) = fl.map fun x => some x.2.1) (hn : decide ((fl.map (·.1)).Nodup) = true) (hW : W w0.drew)
    (hF : ∀ x ∈ fl, ∀ w ρ, W w → (∀ t, ρ (.tmp t) = (putA fl a0).tmps.getD t undef) → (∀ c, ρ (.const c) = c) → ∃ o, ops[x.1]? = some o ∧ (execOp ρ o).run P w = .ok (.value x.2.2) w)
    (fin : SpineW P ops Q W sp (putA fl a0) w0.drew) : (Code.region id ops true).wp P Q a0 w0 := by
  have hall : ∀ x ∈ fl, valOf fl x.1 = x.2.2 ∧ dstOf ops x.1 = some x.2.1 := fun x hx => ⟨valOf_mem fl (of_decide_eq_true hn) x hx, by
    obtain ⟨k, hk, rfl⟩ := List.getElem_of_mem hx
    have := congrArg (fun l => l[k]?) hd
    simpa [hk] using this⟩
  have he := putL_putA (ops := ops) (valOf fl) fl a0 hall
  refine region_spine sp (fl.map (·.1)) (valOf fl) W hm hreg hsp hW ?_ (by rw [he]; exact fin)
  intro i hi w hw
  obtain ⟨x, hx, rfl⟩ := List.mem_map.1 hi
  rw [(hall x hx).1, he]
  exact hF x hx w _ hw (fun t => rfl) (fun c => rfl)
end
end Go.Proofs.Ytjcpbhjmmnpjnaa
/- What sup.numbers answers; the bytes of a block. Conditions: the numbers' sizes. -/
namespace Go.Proofs.Ytjcpbhjmmnpjnaa
set_option linter.unusedVariables false
set_option linter.unusedSimpArgs false
open Go.RowKit
set_option maxRecDepth 100000
set_option maxHeartbeats 400000
def blkV (ep : BitVec 64) (s l n sp wd : Int) (lg : BitVec 64) : Value := .agg #[.int .u64 (U64 ep), .int .i64 s, .int .i64 l, .int .i64 n, .int .i64 sp, .int .i64 wd, .int .u64 (U64 lg)]
def badS (s l n sp wd : Int) : Prop := okG s l n = false ∨ sp < 0 ∨ 1 < sp ∨ wd < 0 ∨ n < wd
theorem u64nat (n : Nat) (h : n < 2 ^ 64) : U64 (BitVec.ofNat 64 n) = (n : Int) := by
  unfold U64
  rw [BitVec.toNat_ofNat, Nat.mod_eq_of_lt h]
def numsL (ep : BitVec 64) (s l n sp wd : Nat) (lg : BitVec 64) : List (BitVec 64 × Nat) :=
  [(BitVec.ofNat 64 1296125772, 4), (BitVec.ofNat 64 1, 4), (ep, 8), (BitVec.ofNat 64 s, 4), (BitVec.ofNat 64 l, 4), (BitVec.ofNat 64 n, 4), (BitVec.ofNat 64 sp, 4), (BitVec.ofNat 64 wd, 4), (lg, 8)]
def numsV (ep : BitVec 64) (s l n sp wd : Nat) (lg : BitVec 64) : Value :=
  .agg #[.int .u64 1296125772, .int .i64 4, .int .u64 1, .int .i64 4, .int .u64 (U64 ep), .int .i64 8, .int .u64 (s : Int), .int .i64 4, .int .u64 (l : Int), .int .i64 4, .int .u64 (n : Int), .int .i64 4, .int .u64 (sp : Int), .int .i64 4, .int .u64 (wd : Int), .int .i64 4, .int .u64 (U64 lg), .int .i64 8]
theorem idx9 (ep : BitVec 64) (s l n sp wd : Nat) (lg : BitVec 64) (hs : s < 2 ^ 64) (hl : l < 2 ^ 64) (hn : n < 2 ^ 64) (hsp : sp < 2 ^ 64) (hwd : wd < 2 ^ 64) (k : Nat) (hk : k < 9) :
    ∃ v b, (numsL ep s l n sp wd lg)[k]? = some (v, b) ∧ b ≤ 8 ∧ ∀ W, (Instr.index 102 (numsV ep s l n sp wd lg) (.int .i64 (k : Int))).run Try.prog W = .ok (.agg #[.int .u64 (U64 v), .int .i64 (b : Int)]) W := by
  match k, hk with
  | 0, _ => exact ⟨_, _, rfl, by decide, fun W => by kernel_rfl⟩
  | 1, _ => exact ⟨_, _, rfl, by decide, fun W => by kernel_rfl⟩
  | 2, _ => exact ⟨_, _, rfl, by decide, fun W => by kernel_rfl⟩
  | 3, _ => exact ⟨_, _, rfl, by decide, fun W => by rw [u64nat s hs]; kernel_rfl⟩
  | 4, _ => exact ⟨_, _, rfl, by decide, fun W => by rw [u64nat l hl]; kernel_rfl⟩
  | 5, _ => exact ⟨_, _, rfl, by decide, fun W => by rw [u64nat n hn]; kernel_rfl⟩
  | 6, _ => exact ⟨_, _, rfl, by decide, fun W => by rw [u64nat sp hsp]; kernel_rfl⟩
  | 7, _ => exact ⟨_, _, rfl, by decide, fun W => by rw [u64nat wd hwd]; kernel_rfl⟩
  | 8, _ => exact ⟨_, _, rfl, by decide, fun W => by kernel_rfl⟩
theorem Bk.seven {W : World} {g : Nat} {E : TypeId} {a b c d e f x : Value} (h : Bk W g E #[a, b, c, d, e, f, x]) : W.cell? ⟨g, 0, none⟩ = some a ∧ W.cell? ⟨g, 1, none⟩ = some b ∧ W.cell? ⟨g, 2, none⟩ = some c ∧ W.cell? ⟨g, 3, none⟩ = some d ∧ W.cell? ⟨g, 4, none⟩ = some e ∧ W.cell? ⟨g, 5, none⟩ = some f ∧ W.cell? ⟨g, 6, none⟩ = some x := ⟨h.cell 0, h.cell 1, h.cell 2, h.cell 3, h.cell 4, h.cell 5, h.cell 6⟩
theorem numbers_c (ep : BitVec 64) (s l n sp wd : Nat) (lg : BitVec 64) (w : World) (hs : s ≤ 1048576) (hl : l ≤ 1048576) (hn : n ≤ 1048576) (hsp : sp ≤ 1048576) (hwd : wd ≤ 1048576) : Calls Try.prog 54 #[blkV ep s l n sp wd lg] w (RetP (numsV ep s l n sp wd lg) w) := by
  have p1 : (0 : Int) ≤ (s : Int) ∧ (s : Int) ≤ 1048576 := by omega
  have p2 : (0 : Int) ≤ (l : Int) ∧ (l : Int) ≤ 1048576 := by omega
  have p3 : (0 : Int) ≤ (n : Int) ∧ (n : Int) ≤ 1048576 := by omega
  have p4 : (0 : Int) ≤ (sp : Int) ∧ (sp : Int) ≤ 1048576 := by omega
  have p5 : (0 : Int) ≤ (wd : Int) ∧ (wd : Int) ≤ 1048576 := by omega
  have k1 : IntKind.u64.wrap (s : Int) = (s : Int) := by simp [IntKind.wrap, IntKind.bits, IntKind.signed]; omega
  have k2 : IntKind.u64.wrap (l : Int) = (l : Int) := by simp [IntKind.wrap, IntKind.bits, IntKind.signed]; omega
  have k3 : IntKind.u64.wrap (n : Int) = (n : Int) := by simp [IntKind.wrap, IntKind.bits, IntKind.signed]; omega
  have k4 : IntKind.u64.wrap (sp : Int) = (sp : Int) := by simp [IntKind.wrap, IntKind.bits, IntKind.signed]; omega
  have k5 : IntKind.u64.wrap (wd : Int) = (wd : Int) := by simp [IntKind.wrap, IntKind.bits, IntKind.signed]; omega
  have hk : Bk ((w.alloc (.cells #[.int .u64 (U64 ep), .int .i64 (s : Int), .int .i64 (l : Int), .int .i64 (n : Int), .int .i64 (sp : Int), .int .i64 (wd : Int), .int .u64 (U64 lg)] 32)).alloc (.cells #[.int .u64 1296125772, .int .i64 4, .int .u64 1, .int .i64 4, .int .u64 (U64 ep), .int .i64 8, .int .u64 (s : Int), .int .i64 4, .int .u64 (l : Int), .int .i64 4, .int .u64 (n : Int), .int .i64 4, .int .u64 (sp : Int), .int .i64 4, .int .u64 (wd : Int), .int .i64 4, .int .u64 (U64 lg), .int .i64 8] 102)) (w.heap.size + 1) 102 #[.int .u64 1296125772, .int .i64 4, .int .u64 1, .int .i64 4, .int .u64 (U64 ep), .int .i64 8, .int .u64 (s : Int), .int .i64 4, .int .u64 (l : Int), .int .i64 4, .int .u64 (n : Int), .int .i64 4, .int .u64 (sp : Int), .int .i64 4, .int .u64 (wd : Int), .int .i64 4, .int .u64 (U64 lg), .int .i64 8] := by
    have q := Bk.new (w.alloc (.cells #[.int .u64 (U64 ep), .int .i64 (s : Int), .int .i64 (l : Int), .int .i64 (n : Int), .int .i64 (sp : Int), .int .i64 (wd : Int), .int .u64 (U64 lg)] 32)) 102 #[.int .u64 1296125772, .int .i64 4, .int .u64 1, .int .i64 4, .int .u64 (U64 ep), .int .i64 8, .int .u64 (s : Int), .int .i64 4, .int .u64 (l : Int), .int .i64 4, .int .u64 (n : Int), .int .i64 4, .int .u64 (sp : Int), .int .i64 4, .int .u64 (wd : Int), .int .i64 4, .int .u64 (U64 lg), .int .i64 8]
    simpa using q
  have hb : Below w.heap.size w ((w.alloc (.cells #[.int .u64 (U64 ep), .int .i64 (s : Int), .int .i64 (l : Int), .int .i64 (n : Int), .int .i64 (sp : Int), .int .i64 (wd : Int), .int .u64 (U64 lg)] 32)).alloc (.cells #[.int .u64 1296125772, .int .i64 4, .int .u64 1, .int .i64 4, .int .u64 (U64 ep), .int .i64 8, .int .u64 (s : Int), .int .i64 4, .int .u64 (l : Int), .int .i64 4, .int .u64 (n : Int), .int .i64 4, .int .u64 (sp : Int), .int .i64 4, .int .u64 (wd : Int), .int .i64 4, .int .u64 (U64 lg), .int .i64 8] 102)) := (Gw.alloc w _).trans ((Gw.alloc _ _).mono (by simp))
  obtain ⟨c0, c1, c2, c3, c4, c5, c6⟩ := (Bk.new w 32 #[.int .u64 (U64 ep), .int .i64 (s : Int), .int .i64 (l : Int), .int .i64 (n : Int), .int .i64 (sp : Int), .int .i64 (wd : Int), .int .u64 (U64 lg)]).seven
  have HK := Lib.hid hk
  have HB := Lib.hid hb
  clear k1 k2 k3 k4 k5 hk hb
  unfold blkV
  go_enter Try.func54, Try.ntmps54
  go_wp2_with fail
  refine bodyPost_ret (v := numsV ep s l n sp wd lg) ?_ rfl ⟨rfl, HB.out⟩
  exact results_cell_row (ty := 102) (p := 2) (by kernel_rfl) _ _ (w.heap.size + 1) 102 #[.int .u64 1296125772, .int .i64 4, .int .u64 1, .int .i64 4, .int .u64 (U64 ep), .int .i64 8, .int .u64 (s : Int), .int .i64 4, .int .u64 (l : Int), .int .i64 4, .int .u64 (n : Int), .int .i64 4, .int .u64 (sp : Int), .int .i64 4, .int .u64 (wd : Int), .int .i64 4, .int .u64 (U64 lg), .int .i64 8] (0, 0) _ (by kernel_rfl) HK.out Try.underlying102 rfl (by kernel_rfl)
end Go.Proofs.Ytjcpbhjmmnpjnaa
/- What sup.Encode answers. No conditions but on the numbers. -/
namespace Go.Proofs.Ytjcpbhjmmnpjnaa
set_option linter.unusedVariables false
set_option linter.unusedSimpArgs false
open Go.RowKit
set_option maxRecDepth 100000
set_option maxHeartbeats 800000
theorem enc6_bad (ep : BitVec 64) (s l n sp wd : Int) (lg : BitVec 64) (w : World) (h : badS s l n sp wd) : Calls Try.prog 37 #[blkV ep s l n sp wd lg] w (RetP (.tuple #[.slice none 0 0, .int .i64 1]) w) := by
  have HC := Lib.hid (fun W => check_c s l n W)
  have HK := Lib.hid (Bk.new w 32 #[.int .u64 (U64 ep), .int .i64 s, .int .i64 l, .int .i64 n, .int .i64 sp, .int .i64 wd, .int .u64 (U64 lg)])
  have HB := Lib.hid (Gw.alloc w (.cells #[.int .u64 (U64 ep), .int .i64 s, .int .i64 l, .int .i64 n, .int .i64 sp, .int .i64 wd, .int .u64 (U64 lg)] 32))
  obtain ⟨c0, c1, c2, c3, c4, c5, c6⟩ := HK.out.seven
  unfold blkV
  unfold gV at HC
  rcases (show okG s l n = false ∨ (okG s l n = true ∧ sp < 0) ∨ (okG s l n = true ∧ ¬ sp < 0 ∧ 1 < sp) ∨ (okG s l n = true ∧ ¬ sp < 0 ∧ ¬ 1 < sp ∧ wd < 0) ∨ (okG s l n = true ∧ ¬ sp < 0 ∧ ¬ 1 < sp ∧ ¬ wd < 0 ∧ n < wd) from by
    unfold badS at h
    by_cases hg : okG s l n = true
    · right
      have h2 : sp < 0 ∨ 1 < sp ∨ wd < 0 ∨ n < wd := by
        rcases h with h | h
        · rw [hg] at h; cases h
        · exact h
      simp only [hg, true_and]
      omega
    · exact .inl (by simpa using hg)) with hg | ⟨hg, h1⟩ | ⟨hg, h1, h2⟩ | ⟨hg, h1, h2, h3⟩ | ⟨hg, h1, h2, h3, h4⟩
  all_goals
    have hc : chkG s l n = (if okG s l n then 0 else 1) := rfl
    rw [hg] at hc
    simp only [Bool.false_eq_true, if_false, if_true] at hc
    rw [hc] at HC
    clear hc hg h
    go_enter Try.func37, Try.ntmps37
    go_wp2_with fail
    refine Calls.mono (HC.out _) ?_
    rintro e w1 ⟨rfl, b1⟩
    have HB1 := Lib.hid (HB.out.trans (b1.mono HB.out.size))
    have HK1 := Lib.hid (HK.out.below b1 HK.out.lt)
    clear b1 c0 c1 c2 c3 c4 c5 c6
    obtain ⟨c0, c1, c2, c3, c4, c5, c6⟩ := HK1.out.seven
    go_wp2_with fail
    go_ret2
    exact ⟨rfl, HB1.out⟩
def headB (ep : BitVec 64) (s l n sp wd : Nat) (lg : BitVec 64) (k : Nat) : List (BitVec 8) := ((numsL ep s l n sp wd lg).take k).flatMap fun p => lowN p.1 p.2
theorem headB_len (ep : BitVec 64) (s l n sp wd : Nat) (lg : BitVec 64) (k : Nat) (h : k ≤ 9) : (headB ep s l n sp wd lg k).length ≤ 44 := by
  unfold headB numsL
  match k, h with
  | 0, _ | 1, _ | 2, _ | 3, _ | 4, _ | 5, _ | 6, _ | 7, _ | 8, _ | 9, _ => simp [lowN]
theorem headB_full (ep : BitVec 64) (s l n sp wd : Nat) (lg : BitVec 64) : (headB ep s l n sp wd lg 9).length = 44 := by
  unfold headB numsL
  simp [lowN]
theorem headB_succ (ep : BitVec 64) (s l n sp wd : Nat) (lg : BitVec 64) (k : Nat) (v : BitVec 64) (b : Nat) (h : (numsL ep s l n sp wd lg)[k]? = some (v, b)) : headB ep s l n sp wd lg (k + 1) = headB ep s l n sp wd lg k ++ lowN v b := by
  unfold headB
  rw [List.take_add_one, h]
  simp
/-- A row of bytes with noughts behind, as cells. -/
def rowC (xs : List (BitVec 8)) (m : Nat) : Array Value := ((xs ++ List.replicate m 0#8).map b8).toArray
theorem rowC_set (xs : List (BitVec 8)) (m : Nat) (y : BitVec 8) : (rowC xs (m + 1)).setIfInBounds xs.length (b8 y) = rowC (xs ++ [y]) m := by
  unfold rowC
  rw [List.setIfInBounds_toArray, ← List.map_set]
  congr 2
  rw [List.set_append_right _ _ (Nat.le_refl _), Nat.sub_self, List.replicate_succ, List.set_cons_zero]
  simp
theorem rowC_at (xs : List (BitVec 8)) (m : Nat) : (rowC xs (m + 1))[xs.length]? = some (b8 0#8) := by
  unfold rowC
  simp
theorem made_row (S : Nat) : madeCells (Value.int .u8 0).cells (S * 1) = rowC [] S := by
  apply Array.ext
  · simp [madeCells, rowC]
  · intro i h1 h2
    simp [madeCells, rowC, b8, Value.cells, Nat.mod_one]
    rfl
/-- A row under way: at block g, the bytes xs, room for S. -/
structure RowS (W : World) (g S : Nat) (xs : List (BitVec 8)) : Prop where
  le : xs.length ≤ S
  bk : Bk W g 5 (rowC xs (S - xs.length))
theorem RowS.step {W : World} {g S : Nat} {xs : List (BitVec 8)} (h : RowS W g S xs) (hl : xs.length < S) (y : BitVec 8) (o : Obj) : RowS ((W.alloc o).setCell ⟨g, xs.length, none⟩ (b8 y)) g S (xs ++ [y]) := by
  refine ⟨by simp; omega, ?_⟩
  have h1 := (h.bk.alloc o).set xs.length (b8 y)
  rw [show S - xs.length = (S - (xs.length + 1)) + 1 from by omega, rowC_set] at h1
  rw [List.length_append]
  exact h1
end Go.Proofs.Ytjcpbhjmmnpjnaa
/- What sup.Encode answers of a block that may be. No conditions but on the numbers. -/
namespace Go.Proofs.Ytjcpbhjmmnpjnaa
set_option linter.unusedVariables false
set_option linter.unusedSimpArgs false
open Go.RowKit
set_option maxRecDepth 100000
set_option maxHeartbeats 800000
theorem lowN_snoc6 (x : BitVec 64) (j : Nat) : lowN x (j + 1) = lowN x j ++ [(x >>> (8 * j)).setWidth 8] := by
  unfold lowN
  rw [List.range_succ, List.map_append]
  rfl
/-- The sector's bytes, but for its sum. -/
def secB (ep : BitVec 64) (s l n sp wd : Nat) (lg : BitVec 64) : List (BitVec 8) := headB ep s l n sp wd lg 9 ++ List.replicate (s - 4 - 44) 0#8
def encSB (ep : BitVec 64) (s l n sp wd : Nat) (lg : BitVec 64) : List (BitVec 8) := sealC (secB ep s l n sp wd lg)
def goodS (s l n sp wd : Nat) : Prop := okG s l n = true ∧ sp ≤ 1 ∧ wd ≤ n
def Enc6P (bs : List (BitVec 8)) (w : World) (e : Ending) (w' : World) : Prop := ∃ A c, e = .returned (.tuple #[.slice A bs.length c, .int .i64 0]) ∧ bs.length ≤ c ∧ Rd b8 w' w'.heap.size A bs ∧ Below w.heap.size w w' ∧ ∀ a, A = some a → w.heap.size ≤ a.block
/-- The block, and the row, of a walk through Encode. -/
def SupR (w : World) (g S : Nat) (xs : List (BitVec 8)) (cs : Array Value) (wr : World) : Prop := RowS wr g S xs ∧ Bk wr w.heap.size 32 cs ∧ w.heap.size < g ∧ Below w.heap.size w wr
theorem SupR.step {w wr : World} {g S m : Nat} {xs : List (BitVec 8)} {cs : Array Value} (h : SupR w g S xs cs wr) (hm : m = xs.length) (hl : m < S) (y : BitVec 8) (o : Obj) : SupR w g S (xs ++ [y]) cs ((wr.setCell ⟨g, m, none⟩ (b8 y)).alloc o) := by
  subst hm
  obtain ⟨h1, h2, h3, h4⟩ := h
  refine ⟨⟨by simp; omega, ?_⟩, (h2.far (p := ⟨g, xs.length, none⟩) (by simp; omega) _).alloc _, h3, ?_⟩
  · have k := h1.bk.set xs.length (b8 y)
    rw [show S - xs.length = (S - (xs.length + 1)) + 1 from by omega, rowC_set] at k
    rw [List.length_append]
    exact k.alloc _
  · have k := h4.setCell (p := ⟨g, xs.length, none⟩) (Nat.le_of_lt h3) (b8 y)
    exact k.trans ((Gw.alloc _ _).mono k.size)
theorem secB_len (ep : BitVec 64) (s l n sp wd : Nat) (lg : BitVec 64) (h : 64 ≤ s) : (secB ep s l n sp wd lg).length = s - 4 := by
  unfold secB
  rw [List.length_append, headB_full, List.length_replicate]
  omega
theorem sec_rd {W : World} {g s : Nat} {ep : BitVec 64} {l n sp wd : Nat} {lg : BitVec 64} (h : RowS W g s (headB ep s l n sp wd lg 9)) (hs : 64 ≤ s) : Rd b8 W W.heap.size (some ⟨g, 0, none⟩) (secB ep s l n sp wd lg) := by
  have k := h.bk
  rw [headB_full] at k
  have h1 := (k.rd (f := b8) (xs := headB ep s l n sp wd lg 9 ++ List.replicate (s - 44) 0#8) rfl k.lt).take (s - 4)
  have e : (headB ep s l n sp wd lg 9 ++ List.replicate (s - 44) 0#8).take (s - 4) = secB ep s l n sp wd lg := by
    unfold secB
    rw [List.take_append, List.take_of_length_le (by rw [headB_full]; omega), headB_full, List.take_replicate, show min (s - 4 - 44) (s - 44) = s - 4 - 44 from by omega]
  rw [e] at h1
  exact h1
theorem enc6_ok (ep : BitVec 64) (s l n sp wd : Nat) (lg : BitVec 64) (w : World) (h : goodS s l n sp wd) : Calls Try.prog 37 #[blkV ep s l n sp wd lg] w (Enc6P (encSB ep s l n sp wd lg) w) := by
  obtain ⟨hg, hsp, hwd⟩ := h
  have og := okG_out hg
  have b1 := og.s1
  have b2 := og.s2
  have b3 := og.l2
  have b4 := og.n2
  have b5 := og.l1
  have b6 := og.n1
  have HC := Lib.hid (fun W => check_c (s : Int) l n W)
  have hc : chkG s l n = (if okG s l n then 0 else 1) := rfl
  rw [hg] at hc
  simp only [if_true] at hc
  rw [hc] at HC
  unfold gV at HC
  have HNm := Lib.hid (fun W => numbers_c ep s l n sp wd lg W (by omega) (by omega) (by omega) (by omega) (by omega))
  have HIx := Lib.hid (idx9 ep s l n sp wd lg (by omega) (by omega) (by omega) (by omega) (by omega))
  have HS44 := Lib.hid (show 64 ≤ s ∧ s ≤ 1024 from by omega)
  have HK := Lib.hid (Bk.new w 32 #[.int .u64 (U64 ep), .int .i64 (s : Int), .int .i64 (l : Int), .int .i64 (n : Int), .int .i64 (sp : Int), .int .i64 (wd : Int), .int .u64 (U64 lg)])
  have HB := Lib.hid (Gw.alloc w (.cells #[.int .u64 (U64 ep), .int .i64 (s : Int), .int .i64 (l : Int), .int .i64 (n : Int), .int .i64 (sp : Int), .int .i64 (wd : Int), .int .u64 (U64 lg)] 32))
  obtain ⟨c0, c1, c2, c3, c4, c5, c6⟩ := HK.out.seven
  obtain ⟨NV, hNV⟩ : ∃ v, v = numsV ep s l n sp wd lg := ⟨_, rfl⟩
  have q1 : ¬ (sp : Int) < 0 := by omega
  have q2 : ¬ 1 < (sp : Int) := by omega
  have q3 : ¬ (wd : Int) < 0 := by omega
  have q4 : ¬ (n : Int) < (wd : Int) := by omega
  have hmk : ∀ W : World, (Instr.makeSlice 22 (.int .i64 0) (.int .i64 (s : Int))).run Try.prog W = .ok (.slice (some ⟨W.heap.size, 0, none⟩) 0 s) (W.alloc (.cells (rowC [] s) 5)) := by
    intro W
    obtain ⟨i, hi, hz, hsz, hby⟩ := one8.info
    have h := run_make (P := Try.prog) W 22 5 i (.int .u8 0) one8.under hi hz .i64 .i64 0 (s : Int) (by omega) (by omega) (by rw [hby]; omega) (by omega)
    rw [hsz] at h
    rw [h, show ((s : Int)).toNat = s from by omega, made_row]
    rfl
  clear hg og hsp hwd hc
  unfold blkV at HNm ⊢
  go_enter Try.func37, Try.ntmps37
  go_wp2_with fail
  refine Calls.mono (HC.out _) ?_
  rintro e w1 ⟨rfl, b1'⟩
  have HB1 := Lib.hid (HB.out.trans (b1'.mono HB.out.size))
  have HK1 := Lib.hid (HK.out.below b1' HK.out.lt)
  clear b1' c0 c1 c2 c3 c4 c5 c6
  obtain ⟨c0, c1, c2, c3, c4, c5, c6⟩ := HK1.out.seven
  have hz := HK1.out.lt
  go_wp2_with fail
  refine Calls.mono (HNm.out _) ?_
  rintro e w2 ⟨rfl, b2'⟩
  rw [← hNV] at HIx ⊢
  obtain ⟨g, hg⟩ : ∃ g, g = w1.heap.size := ⟨_, rfl⟩
  have HS2 := Lib.hid (show SupR w g s (headB ep s l n sp wd lg 0) #[.int .u64 (U64 ep), .int .i64 (s : Int), .int .i64 (l : Int), .int .i64 (n : Int), .int .i64 (sp : Int), .int .i64 (wd : Int), .int .u64 (U64 lg)] w2 from by
    refine ⟨⟨by simp [headB], ?_⟩, (HK1.out.alloc _).below b2' (by simp; omega), by omega, (HB1.out.trans ((Gw.alloc w1 _).mono HB1.out.size)).trans (b2'.mono (by have := HB1.out.size; simp; omega))⟩
    rw [hg]
    exact (Bk.new w1 5 (rowC [] s)).below b2' (by simp))
  rw [← hg]
  clear b2' hg c0 c1 c2 c3 c4 c5 c6 hmk HC HNm HK1 hNV hz HB1
  go_wp2_with fail
  go_loopw [41, 4] (fun k v wr => ∃ (j : Nat) (m : Nat), k = .int .i64 j ∧ v = .slice (some ⟨g, 0, none⟩) m s ∧ j ≤ 9 ∧ Hid (m = (headB ep s l n sp wd lg j).length) ∧ Hid (SupR w g s (headB ep s l n sp wd lg j) #[.int .u64 (U64 ep), .int .i64 (s : Int), .int .i64 (l : Int), .int .i64 (n : Int), .int .i64 (sp : Int), .int .i64 (wd : Int), .int .u64 (U64 lg)] wr)) (fun k _ _ => 9 - (intOf k).toNat)
  case atStart => exact ⟨0, 0, rfl, rfl, Nat.zero_le _, Lib.hid rfl, HS2⟩
  case round =>
    obtain ⟨W0, rfl⟩ : ∃ x, x = wr := ⟨wr, rfl⟩
    obtain ⟨j, m, rfl, rfl, hj, hm, hS⟩ := hrel
    by_cases hlt : j < 9
    · obtain ⟨v, b, hvb, hb8, hix⟩ := HIx.out j hlt
      have HSC := Lib.hid (headB_succ ep s l n sp wd lg j v b hvb)
      have HL9 := Lib.hid (headB_len ep s l n sp wd lg (j + 1) (by omega))
      have p1 : (0 : Int) ≤ (j : Int) := by omega
      have p2 : (j : Int) < 9 := by omega
      obtain ⟨hB, hHB⟩ : ∃ x, x = headB ep s l n sp wd lg j := ⟨_, rfl⟩
      rw [← hHB] at hm hS HSC
      clear hvb hHB
      go_wp2_with fail
      have HSI := Lib.hid (show SupR w g s (hB ++ lowN v 0) #[.int .u64 (U64 ep), .int .i64 (s : Int), .int .i64 (l : Int), .int .i64 (n : Int), .int .i64 (sp : Int), .int .i64 (wd : Int), .int .u64 (U64 lg)] (W0.alloc (.cells #[.int .u64 (U64 v), .int .i64 (b : Int)] 101)) from by
        rw [show lowN v 0 = [] from rfl, List.append_nil]
        exact ⟨⟨hS.out.1.le, hS.out.1.bk.alloc _⟩, hS.out.2.1.alloc _, hS.out.2.2.1, hS.out.2.2.2.trans ((Gw.alloc W0 _).mono hS.out.2.2.2.size)⟩)
      have HQ := Lib.hid (Bk.new W0 101 #[.int .u64 (U64 v), .int .i64 (b : Int)])
      have HQG := Lib.hid (show g < W0.heap.size from hS.out.1.bk.lt)
      obtain ⟨q, hq⟩ : ∃ q, q = W0.heap.size := ⟨_, rfl⟩
      rw [← hq] at HQ HQG ⊢
      have HQ2 := Lib.hid hq
      have hM0 := Lib.hid (show m = (hB ++ lowN v 0).length from by rw [hm.out]; simp [lowN])
      clear hq hS
      go_loopw [46, 4] (fun k u wr => ∃ (i : Nat) (m : Nat), k = .int .i64 i ∧ u = .slice (some ⟨g, 0, none⟩) m s ∧ i ≤ b ∧ Hid (m = (hB ++ lowN v i).length) ∧ Hid (SupR w g s (hB ++ lowN v i) #[.int .u64 (U64 ep), .int .i64 (s : Int), .int .i64 (l : Int), .int .i64 (n : Int), .int .i64 (sp : Int), .int .i64 (wd : Int), .int .u64 (U64 lg)] wr) ∧ Hid (Bk wr q 101 #[.int .u64 (U64 v), .int .i64 (b : Int)])) (fun k _ _ => b - (intOf k).toNat)
      case atStart => exact ⟨0, m, rfl, rfl, Nat.zero_le _, hM0, HSI, HQ⟩
      case round =>
        obtain ⟨i, m1, rfl, rfl, hi, hm1, hS1, hQ1⟩ := hrel
        by_cases hib : i < b
        · have hml : m1 < 44 := by
            have := hm1.out
            have h2 := HL9.out
            rw [HSC.out] at h2
            rw [List.length_append, lowN_len] at h2 this
            omega
          have hms : m1 + 1 ≤ s := by have := HS44.out; omega
          have d0 : wr.cell? ⟨g, m1, none⟩ = some (.int .u8 0) := by
            have h2 := hS1.out.1.bk.cell m1
            rw [h2, show s - (hB ++ lowN v i).length = (s - m1 - 1) + 1 from by rw [← hm1.out]; omega]
            have h3 := rowC_at (hB ++ lowN v i) (s - m1 - 1)
            rw [← hm1.out] at h3
            rw [h3]
            rfl
          have d1 := hS1.out.1.bk.free m1
          have d2 := hS1.out.1.bk.lt
          have n0 := hQ1.out.cell 0
          have n1 := hQ1.out.cell 1
          have q1 : (0 : Int) ≤ 8 * (i : Int) := by omega
          have q2 : 8 * (i : Int) < 64 := by omega
          have w8 : IntKind.i64.wrap (8 * (i : Int)) = 8 * (i : Int) := wrapIn (by omega) (by omega)
          have n8 : (8 * (i : Int)).toNat = 8 * i := by omega
          have y1 := u64_u8 (v >>> (8 * i))
          have y2 := u64_u8m (v >>> (8 * i))
          have y3 := shrU64 v (8 * i)
          obtain ⟨y, hy⟩ : ∃ y, y = (v >>> (8 * i)).setWidth 8 := ⟨_, rfl⟩
          rw [← hy] at y1 y2
          have HY : Hid (lowN v (i + 1) = lowN v i ++ [y]) := Lib.hid (by rw [lowN_snoc6, hy])
          have p5 : (i : Int) < (b : Int) := by omega
          clear hy
          go_wp2_with fail
          have hS3 := Lib.hid (hS1.out.step hm1.out (by omega) y (.cells #[.int .u8 (U8 y)] 5))
          have hQ3 := Lib.hid ((hQ1.out.far (p := ⟨g, m1, none⟩) (show q ≠ g from by have := HQG.out; omega) (b8 y)).alloc (.cells #[.int .u8 (U8 y)] 5))
          go_roundw
          case rel => exact ⟨i + 1, m1 + 1, by go_num, rfl, by omega, Lib.hid (by rw [HY.out, ← List.append_assoc, List.length_append, ← hm1.out]; rfl), by rw [HY.out, ← List.append_assoc]; exact hS3, hQ3⟩
          case measure => (first | (simp [intOf]; done) | (simp [intOf]; omega))
        · have hibe : i = b := by omega
          subst hibe
          rw [← HSC.out] at hm1 hS1
          go_wp2_with fail
          go_roundw
          case rel => exact ⟨j + 1, m1, by go_num, rfl, by omega, hm1, hS1⟩
          case measure => (first | (simp [intOf]; done) | (simp [intOf]; omega))
    · have hj9 : j = 9 := by omega
      subst hj9
      have hm44 : m = 44 := by rw [hm.out, headB_full]
      clear hm
      subst hm44
      have HRd := Lib.hid (sec_rd hS.out.1 HS44.out.1)
      have HSl := Lib.hid (seal_c (secB ep s l n sp wd lg) (some ⟨g, 0, none⟩) s W0 HRd.out (by rw [secB_len _ _ _ _ _ _ _ HS44.out.1]; have := HS44.out; omega))
      rw [secB_len _ _ _ _ _ _ _ HS44.out.1] at HSl
      obtain ⟨c0, c1, c2, c3, c4, c5, c6⟩ := hS.out.2.1.seven
      have HBE := Lib.hid hS.out.2.2.2
      have r1 : (0 : Int) ≤ (s : Int) - 4 := by omega
      have r2 : (s : Int) - 4 ≤ (s : Int) := by omega
      have r3 : ((s : Int) - 4).toNat = s - 4 := by omega
      clear hS HIx
      go_wp2_with fail
      refine Calls.mono HSl.out ?_
      rintro e w5 ⟨A5, c5', rfl, hc5, ho5, b5'⟩
      have HF := Lib.hid (show Enc6P (encSB ep s l n sp wd lg) w (.returned (.tuple #[.slice A5 (sealC (secB ep s l n sp wd lg)).length c5', .int .i64 0])) w5 from ⟨A5, c5', rfl, hc5, ho5.rd, HBE.out.trans (b5'.mono HBE.out.size), fun a e => Nat.le_trans HBE.out.size (World.ownsRow.lt ho5 a.block (by rw [e]; rfl)).1⟩)
      obtain ⟨m5, hm5⟩ : ∃ m, m = (sealC (secB ep s l n sp wd lg)).length := ⟨_, rfl⟩
      rw [← hm5] at HF ⊢
      clear hc5 ho5 b5' hm5 c0 c1 c2 c3 c4 c5 c6
      go_wp2_with fail
      go_ret2
      exact HF.out
end Go.Proofs.Ytjcpbhjmmnpjnaa
/- What geom.Word answers of a geometry that may be. Conditions: it may be. -/
namespace Go.Proofs.Ytjcpbhjmmnpjnaa
set_option linter.unusedVariables false
set_option linter.unusedSimpArgs false
open Go.RowKit
def wordG (s l n i k : Int) : Int × Int := if (i = 0 ∨ i = 1) ∧ 0 ≤ k ∧ k < n then ((spcG s l n i).1 + k * 8 / s, k * 8 % s) else (0, 0)
theorem tdiv_in (a b : Int) (h : 0 ≤ a) : a.tdiv b = a / b := Int.tdiv_eq_ediv_of_nonneg h
theorem tmod_in (a b : Int) (h : 0 ≤ a) : a.tmod b = a % b := Int.tmod_eq_emod_of_nonneg h
theorem quo_in (a b : Int) (h : 0 ≤ a) (h2 : a ≤ 1000000) (h3 : 64 ≤ b) : IntKind.i64.wrap (a / b) = a / b := by
  have q1 := Int.ediv_nonneg (a := a) (b := b) h (by omega)
  have q2 : a / b < 1000001 := Int.ediv_lt_of_lt_mul (by omega) (by omega)
  exact wrapIn (by omega) (by omega)
theorem rem_in (a b : Int) (h : 0 ≤ a) (h2 : a ≤ 1000000) (h3 : 64 ≤ b) : IntKind.i64.wrap (a % b) = a % b := by
  have q1 := Int.emod_nonneg a (b := b) (by omega)
  have q2 := Int.emod_lt_of_pos a (b := b) (by omega)
  have q4 := Int.mul_ediv_add_emod a b
  have q5 := Int.mul_nonneg (show 0 ≤ b by omega) (Int.ediv_nonneg (a := a) (b := b) h (by omega))
  exact wrapIn (by omega) (by omega)
set_option maxHeartbeats 400000
end Go.Proofs.Ytjcpbhjmmnpjnaa
