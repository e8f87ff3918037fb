/- Texts of numbers and bytes; strconv.Itoa below a hundred; strings put together; a builder as a predicate. Conditions: below 100; lengths. -/
import Derived.Test.YtdppnggchpchgaaDoorBdC
import Derived.Test.YtdppnggchpchgaaDoorLaid18
import Derived.Test.YtdppnggchpchgaaDoorGrG
namespace Go.Proofs.YtdppnggchpchgaaDoor
set_option linter.unusedVariables false
set_option linter.unusedSimpArgs false
open Go.RowKit
/-- A number below a hundred in digits. -/
def decL (n : Nat) : List (BitVec 8) := if n < 10 then [BitVec.ofNat 8 (48 + n)] else [BitVec.ofNat 8 (48 + n / 10), BitVec.ofNat 8 (48 + n % 10)]
def hexB (bs : List (BitVec 8)) : List (BitVec 8) := bs.flatMap fun x => [hexU (x.toNat / 16), hexU (x.toNat % 16)]
def ptrT (ps : List Int) : List (BitVec 8) := ps.flatMap fun p => 32#8 :: decL p.toNat
def xT (bs : List (BitVec 8)) : List (BitVec 8) := if bs = [] then [] else [32#8, 120#8]
def lineT (m : List Int × List (BitVec 8)) : List (BitVec 8) := ptrT m.1 ++ xT m.2 ++ hexB m.2
def sB (s : ByteArray) : List (BitVec 8) := s.data.toList.map UInt8.toBitVec
def rootT (r : Rv) : List (BitVec 8) := sB r.s ++ [32#8, 45#8, 62#8, 32#8] ++ decL r.t.toNat ++ [10#8]
def rootsT (rs : List Rv) : List (BitVec 8) := rs.flatMap rootT
def nodeT (i : Nat) (m : List Int × List (BitVec 8)) : List (BitVec 8) := decL (i + 1) ++ [58#8] ++ lineT m ++ [10#8]
def nodesT : List (List Int × List (BitVec 8)) → Nat → List (BitVec 8)
  | [], _ => []
  | m :: r, i => nodeT i m ++ nodesT r (i + 1)
theorem nodesT_snoc (m : List Int × List (BitVec 8)) : ∀ (l : List (List Int × List (BitVec 8))) (i : Nat), nodesT (l ++ [m]) i = nodesT l i ++ nodeT (i + l.length) m
  | [], i => by simp [nodesT]
  | x :: r, i => by
    rw [List.cons_append]
    unfold nodesT
    rw [nodesT_snoc m r (i + 1), List.length_cons, List.append_assoc, show i + 1 + r.length = i + (r.length + 1) by omega]
theorem rootsT_snoc (l : List Rv) (r : Rv) : rootsT (l ++ [r]) = rootsT l ++ rootT r := by unfold rootsT; rw [List.flatMap_append]; simp
theorem ptrT_snoc (l : List Int) (p : Int) : ptrT (l ++ [p]) = ptrT l ++ (32#8 :: decL p.toNat) := by unfold ptrT; rw [List.flatMap_append]; simp
theorem hexB_snoc (l : List (BitVec 8)) (x : BitVec 8) : hexB (l ++ [x]) = hexB l ++ [hexU (x.toNat / 16), hexU (x.toNat % 16)] := by unfold hexB; rw [List.flatMap_append]; simp
theorem decL_len (n : Nat) : (decL n).length ≤ 2 := by unfold decL; split <;> simp
theorem ptrT_len : ∀ ps : List Int, (ptrT ps).length ≤ 3 * ps.length
  | [] => Nat.le_refl _
  | p :: r => by
    have h := ptrT_len r
    have h2 := decL_len p.toNat
    have e : ptrT (p :: r) = (32#8 :: decL p.toNat) ++ ptrT r := rfl
    rw [e, List.length_append, List.length_cons, List.length_cons]
    omega
theorem hexB_len : ∀ bs : List (BitVec 8), (hexB bs).length = 2 * bs.length
  | [] => rfl
  | x :: r => by
    have h := hexB_len r
    have e : hexB (x :: r) = [hexU (x.toNat / 16), hexU (x.toNat % 16)] ++ hexB r := rfl
    rw [e, List.length_append, h, List.length_cons]
    simp; omega
theorem xT_len (bs : List (BitVec 8)) : (xT bs).length ≤ 2 := by unfold xT; split <;> simp
theorem lineT_len (m : List Int × List (BitVec 8)) : (lineT m).length ≤ 3 * m.1.length + 2 + 2 * m.2.length := by
  unfold lineT
  rw [List.length_append, List.length_append, hexB_len]
  have := ptrT_len m.1
  have := xT_len m.2
  omega
theorem sB_len (s : ByteArray) : (sB s).length = s.size := by unfold sB; simp
theorem strB_sB (s : ByteArray) : strB (sB s) = s := by
  unfold strB strL sB
  rw [List.map_map]
  have : (UInt8.ofBitVec ∘ UInt8.toBitVec) = id := rfl
  rw [this, List.map_id]
theorem strB_app (a b : List (BitVec 8)) : strB a ++ strB b = strB (a ++ b) := by
  have h : (strB a ++ strB b).data = (strB (a ++ b)).data := by
    rw [ByteArray.data_append]
    unfold strB strL
    simp
  cases e1 : strB a ++ strB b
  cases e2 : strB (a ++ b)
  rw [e1, e2] at h
  exact congrArg ByteArray.mk h
theorem add_ss (a b : List (BitVec 8)) (h : a.length + b.length ≤ 1000000000) (W : World) : (binOp .add 9 (.string (strB a)) (.string (strB b))).run Tryd.prog W = .ok (.string (strB (a ++ b))) W := by
  have ha := strB_len a
  have hb := strB_len b
  have hs : ¬ (((strB a).size + (strB b).size : Nat) : Int) > IntKind.i64.max := by
    rw [ha, hb]
    simp only [IntKind.max, IntKind.signed, IntKind.bits]
    omega
  have e : Op.stringOp .add (strB a) (strB b) = pure (.string (strB a ++ strB b)) := by
    unfold Op.stringOp
    simp only
    rw [if_neg hs]
  have k : binOp .add 9 (.string (strB a)) (.string (strB b)) = Op.stringOp .add (strB a) (strB b) := rfl
  rw [k, e, strB_app]
  rfl
theorem add_sd (a : List (BitVec 8)) (b : ByteArray) (h : a.length + b.size ≤ 1000000000) (W : World) : (binOp .add 9 (.string (strB a)) (.string b)).run Tryd.prog W = .ok (.string (strB (a ++ sB b))) W := by
  have k := add_ss a (sB b) (by rw [sB_len]; exact h) W
  rw [strB_sB] at k
  exact k
theorem add_ds (a : ByteArray) (b : List (BitVec 8)) (h : a.size + b.length ≤ 1000000000) (W : World) : (binOp .add 9 (.string a) (.string (strB b))).run Tryd.prog W = .ok (.string (strB (sB a ++ b))) W := by
  have k := add_ss (sB a) b (by rw [sB_len]; exact h) W
  rw [strB_sB] at k
  exact k
theorem add_dd (a b : ByteArray) (h : a.size + b.size ≤ 1000000000) (W : World) : (binOp .add 9 (.string a) (.string b)).run Tryd.prog W = .ok (.string (strB (sB a ++ sB b))) W := by
  have k := add_ss (sB a) (sB b) (by rw [sB_len, sB_len]; exact h) W
  rw [strB_sB, strB_sB] at k
  exact k
def smallS : ByteArray := ⟨#[48, 48, 48, 49, 48, 50, 48, 51, 48, 52, 48, 53, 48, 54, 48, 55, 48, 56, 48, 57, 49, 48, 49, 49, 49, 50, 49, 51, 49, 52, 49, 53, 49, 54, 49, 55, 49, 56, 49, 57, 50, 48, 50, 49, 50, 50, 50, 51, 50, 52, 50, 53, 50, 54, 50, 55, 50, 56, 50, 57, 51, 48, 51, 49, 51, 50, 51, 51, 51, 52, 51, 53, 51, 54, 51, 55, 51, 56, 51, 57, 52, 48, 52, 49, 52, 50, 52, 51, 52, 52, 52, 53, 52, 54, 52, 55, 52, 56, 52, 57, 53, 48, 53, 49, 53, 50, 53, 51, 53, 52, 53, 53, 53, 54, 53, 55, 53, 56, 53, 57, 54, 48, 54, 49, 54, 50, 54, 51, 54, 52, 54, 53, 54, 54, 54, 55, 54, 56, 54, 57, 55, 48, 55, 49, 55, 50, 55, 51, 55, 52, 55, 53, 55, 54, 55, 55, 55, 56, 55, 57, 56, 48, 56, 49, 56, 50, 56, 51, 56, 52, 56, 53, 56, 54, 56, 55, 56, 56, 56, 57, 57, 48, 57, 49, 57, 50, 57, 51, 57, 52, 57, 53, 57, 54, 57, 55, 57, 56, 57, 57]⟩
theorem smallS_dig (i : Nat) (hi : i < 100) : smallS.extract (i * 2) (i * 2 + 2) = strB [BitVec.ofNat 8 (48 + i / 10), BitVec.ofNat 8 (48 + i % 10)] := by
  have key : ∀ k : Fin 100, (smallS.extract (k.1 * 2) (k.1 * 2 + 2)).data = (strB [BitVec.ofNat 8 (48 + k.1 / 10), BitVec.ofNat 8 (48 + k.1 % 10)]).data := by decide +kernel
  exact congrArg ByteArray.mk (key ⟨i, hi⟩)
set_option maxHeartbeats 1000000
set_option maxRecDepth 100000
theorem small2_c (i : Nat) (h10 : 10 ≤ i) (hi : i < 100) (w : World) : Calls Tryd.prog 51 #[.int .i64 i] w fun e w' => e = .returned (.string (strB (decL i))) ∧ w' = w := by
  have hd : decL i = [BitVec.ofNat 8 (48 + i / 10), BitVec.ofNat 8 (48 + i % 10)] := by unfold decL; rw [if_neg (by omega)]
  have hsd := smallS_dig i hi
  rw [hd]
  clear hd
  obtain ⟨k, hk⟩ : ∃ k, k = i := ⟨_, rfl⟩
  have h1 : ¬ (k : Int) < 10 := by omega
  have h2 : (k : Int) < 100 := by omega
  rw [← hk] at hsd ⊢
  have HS := Lib.hid hsd
  clear hsd h10 hi hk
  go_enter Tryd.func51, Tryd.ntmps51
  go_wp2_with fail
  go_ret
  refine ⟨?_, rfl⟩
  show Ending.returned (.string (smallS.extract (k * 2) (k * 2 + 2))) = _
  rw [HS.out]
theorem fi2_c (i : Nat) (h10 : 10 ≤ i) (hi : i < 100) (w : World) : Calls Tryd.prog 49 #[.int .i64 i, .int .i64 10] w fun e w' => e = .returned (.string (strB (decL i))) ∧ w' = w := by
  have h1 : (i : Int) < 100 := by omega
  have h0 : (0 : Int) ≤ i := by omega
  have HC := Lib.hid (small2_c i h10 hi w)
  go_enter Tryd.func49, Tryd.ntmps49
  go_wp2_with fail
  refine Calls.mono HC.out ?_
  rintro e w1 ⟨rfl, rfl⟩
  go_wp2_with fail
  go_ret
  exact ⟨rfl, rfl⟩
theorem iitoa2_c (i : Nat) (h10 : 10 ≤ i) (hi : i < 100) (w : World) : Calls Tryd.prog 44 #[.int .i64 i] w fun e w' => e = .returned (.string (strB (decL i))) ∧ w' = w := by
  have HC := Lib.hid (fi2_c i h10 hi w)
  clear h10 hi
  go_enter Tryd.func44, Tryd.ntmps44
  go_wp2_with fail
  refine Calls.mono HC.out ?_
  rintro e w1 ⟨rfl, rfl⟩
  go_wp2_with fail
  go_ret
  exact ⟨rfl, rfl⟩
theorem itoa2_c (i : Nat) (h10 : 10 ≤ i) (hi : i < 100) (w : World) : Calls Tryd.prog 30 #[.int .i64 i] w fun e w' => e = .returned (.string (strB (decL i))) ∧ w' = w := by
  have HC := Lib.hid (iitoa2_c i h10 hi w)
  clear h10 hi
  go_enter Tryd.func30, Tryd.ntmps30
  go_wp2_with fail
  refine Calls.mono HC.out ?_
  rintro e w1 ⟨rfl, rfl⟩
  go_wp2_with fail
  go_ret
  exact ⟨rfl, rfl⟩
theorem itoaD (p : Int) (h0 : 0 ≤ p) (h : p < 100) (w : World) : Calls Tryd.prog 30 #[.int .i64 p] w (RetP (.string (strB (decL p.toNat))) w) := by
  obtain ⟨i, rfl⟩ := Int.eq_ofNat_of_zero_le h0
  rw [Int.toNat_natCast]
  by_cases c : i < 10
  · refine (itoa_c i c w).mono fun _ _ h => ⟨?_, h.2 ▸ Below.refl _ _⟩
    rw [h.1]
    unfold decL
    rw [if_pos c]
  · exact (itoa2_c i (by omega) (by omega) w).mono fun _ _ h => ⟨h.1, h.2 ▸ Below.refl _ _⟩
/-- A builder of one's own that holds xs. -/
def BdS (W : World) (B b : Nat) (xs : List (BitVec 8)) : Prop := B ≤ W.heap.size ∧ ∃ v, BdAt W B b v xs
theorem BdS.below {W W' : World} {B b : Nat} {xs : List (BitVec 8)} (h : BdS W B b xs) (hb : Below W.heap.size W W') : BdS W' B b xs := by
  obtain ⟨h1, v, h2⟩ := h
  exact ⟨Nat.le_trans h1 hb.size, v, h2.below hb⟩
def WsS (w : World) (B b : Nat) (zs : List (BitVec 8)) (e : Ending) (w' : World) : Prop := ∃ n, e = .returned (.tuple #[.int .i64 n, .nilIface]) ∧ BdS w' B b zs ∧ Below B w w'
theorem ws_s (w : World) (B b : Nat) (xs ys : List (BitVec 8)) (h : BdS w B b xs) (hl : xs.length + ys.length ≤ 4294967296) :
    Calls Tryd.prog 29 #[.pointer (some ⟨b, 0, none⟩), .string (strB ys)] w (WsS w B b (xs ++ ys)) := by
  obtain ⟨hB, v, h1⟩ := h
  refine (writeString_c w B b v xs ys h1 hl hB).mono ?_
  rintro e w' ⟨v', rfl, h2, k⟩
  exact ⟨_, rfl, ⟨Nat.le_trans hB k.two.size, v', h2⟩, h1.kb k hB⟩
theorem BdS.str (w : World) (B b : Nat) (xs : List (BitVec 8)) (h : BdS w B b xs) : Calls Tryd.prog 32 #[.pointer (some ⟨b, 0, none⟩)] w fun e w' => e = .returned (.string (strB xs)) ∧ Below B w w' := by
  obtain ⟨hB, v, h1⟩ := h
  exact string_c B b v xs w h1 hB
theorem BdS.new {w W : World} {b : Nat} (h : Bk W b 65 #[.pointer none, .slice none 0 0]) (hb : w.heap.size ≤ b) (hW : w.heap.size ≤ W.heap.size) : BdS W w.heap.size b [] :=
  ⟨hW, _, hb, ⟨_, .inl rfl, h⟩, Ow.nil_ _ _ _ _⟩
end Go.Proofs.YtdppnggchpchgaaDoor
