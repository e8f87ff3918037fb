/- Texts joined: CrcE Known2 CrcF OpenP AnyR NmV PwI NmW. -/
import Derived.Test.YtaminpfgkegibaaXd4
import Derived.Test.YtaminpfgkegibaaCrcD
import Derived.Test.YtaminpfgkegibaaStr
import Derived.Test.YtaminpfgkegibaaRegV
import Derived.LoopTactic
import Derived.Lib.SmallJoins
import Derived.Test.YtaminpfgkegibaaFrame
import Derived.Deep.Matrix
/- What the functions of loamref2 answer. Conditions: at most 2^30 bytes. -/
namespace Go.Proofs.Ytaminpfgkegibaa
set_option linter.unusedVariables false
set_option linter.unusedSimpArgs false
open Go.RowKit
end Go.Proofs.Ytaminpfgkegibaa
/- What loamlaw2.known answers: true. No conditions. -/
namespace Go.Proofs.Ytaminpfgkegibaa
set_option linter.unusedVariables false
set_option linter.unusedSimpArgs false
open Go.RowKit
def l1234 : List (BitVec 8) := [49, 50, 51, 52]
def l5 : List (BitVec 8) := [53, 54, 55, 56, 57]
def lx : List (BitVec 8) := [120]
def labc : List (BitVec 8) := [97, 98, 99]
/-- Block g has the cells cs, whatever of it is frozen. -/
def Fk (w : World) (g : Nat) (E : TypeId) (cs : Array Value) : Prop := ∃ fr, w.heap[g]? = some (.cells cs E fr)
section
variable {W W' : World} {g B : Nat} {E : TypeId} {cs : Array Value}
theorem Fk.lt (h : Fk W g E cs) : g < W.heap.size := by
  obtain ⟨fr, h⟩ := h
  rcases Nat.lt_or_ge g W.heap.size with hl | hl
  · exact hl
  · rw [Array.getElem?_eq_none hl] at h; cases h
theorem Fk.alloc (h : Fk W g E cs) (o : Obj) : Fk (W.alloc o) g E cs := ⟨h.choose, (Below.heap_alloc W o g h.lt).trans h.choose_spec⟩
theorem Fk.drew (h : Fk W g E cs) : Fk W.drew g E cs := h
theorem Fk.drewN (h : Fk W g E cs) (n : Nat) : Fk (W.drewN n) g E cs := h
theorem Fk.below (h : Fk W g E cs) (hb : Below B W W') (hg : g < B) : Fk W' g E cs := ⟨h.choose, (hb.block g hg).trans h.choose_spec⟩
theorem Fk.rd {α : Type} {f : α → Value} {xs : List α} (h : Fk W g E cs) (e : cs = (xs.map f).toArray) (hB : g < B) : Rd f W B (some ⟨g, 0, none⟩) xs := fun j hj => by
  refine ⟨_, rfl, hB, ?_⟩
  have e2 : ((⟨g, 0, none⟩ : Addr).add j) = ⟨g, j, none⟩ := by unfold Addr.add; split <;> simp_all
  rw [e2, Joins.cell_of_block h.choose_spec, e]
  simp [hj]
end
theorem kc_at (w : World) (C : Array Value) (n c g : Nat) (hg : g = w.heap.size) : (convert 95 95 (.slice (some ⟨g, 0, none⟩) n c)).run Try.prog (w.alloc (.cells C 5)) = .ok (.slice (some ⟨g, 0, none⟩) n c) (w.alloc (.cells C 5 (C.size, C.size + 1))) :=
  Joins.run_convert_bytes_const_at w 95 5 C n c g hg Try.underlying95 Try.underlying5
attribute [local go_sem] kc_at
set_option maxHeartbeats 800000
set_option maxRecDepth 100000
end Go.Proofs.Ytaminpfgkegibaa
/- What Low, Seal, Right of loamref2 answer. Conditions: at most 2^30 bytes. -/
namespace Go.Proofs.Ytaminpfgkegibaa
set_option linter.unusedVariables false
set_option linter.unusedSimpArgs false
open Go.RowKit
set_option maxRecDepth 100000
set_option maxHeartbeats 400000
attribute [local go_sem] m8_0 sh8 sh16 sh24 u32_u8
def rightL (bs : List (BitVec 8)) : Bool := decide (4 ≤ bs.length) && tailL (addC 0#32 (bs.take (bs.length - 4))) == bs.drop (bs.length - 4)
end Go.Proofs.Ytaminpfgkegibaa
/- How an argument of type [][]byte is opened. No conditions. -/
namespace Go.Proofs.Ytaminpfgkegibaa
set_option linter.unusedVariables false
set_option linter.unusedSimpArgs false
open Go.ChangeShapes Go.WideShapes Go.ChangeAt Go.RowKit
end Go.Proofs.Ytaminpfgkegibaa
/- The last region of SumsAny. Conditions: lengths. -/
namespace Go.Proofs.Ytaminpfgkegibaa
set_option linter.unusedVariables false
set_option linter.unusedSimpArgs false
open Go.RowKit
theorem of_ret {P : Program} {f : FuncId} {args : Array Value} {v : Value} {w : World} (h : Calls P f args w (RetP v w)) : Calls P f args w fun e w2 => ∃ u, e = .returned u ∧ Below w.heap.size w w2 ∧ IsV v u w2 :=
  h.mono fun _ _ h => ⟨_, h.1, h.2, rfl⟩
set_option maxRecDepth 100000
set_option maxHeartbeats 400000
end Go.Proofs.Ytaminpfgkegibaa
/- Names read out of rows of bytes. No conditions. -/
namespace Go.Proofs.Ytaminpfgkegibaa
set_option linter.unusedVariables false
set_option linter.unusedSimpArgs false
open Go.RowKit Go.Maps
set_option maxHeartbeats 2000000
set_option maxRecDepth 100000
/-- Is what a Root has for a name one? -/
def nmOk (k : Nm) : Bool := decide (goodN (cutN k) ∧ padNm (cutN k) = k)
theorem ldRd {w : World} {B : Nat} {a : Addr} {xs : Nm} (hr : Rd b8 w B (some a) xs) (hl : nW xs) : (loadVar 147 a).run Try.prog w = .ok (.agg (nC xs)) w := by
  have hc : (loadCells a (xs.map b8).length).run Try.prog w = .ok (xs.map b8).toArray w := run_loadCells_list w a (xs.map b8) (fun j v hv => by
    rw [List.getElem?_map] at hv
    cases hx : xs[j]? with
    | none => rw [hx] at hv; cases hv
    | some y =>
      rw [hx] at hv
      injection hv with hv
      obtain ⟨hj, e⟩ := List.getElem?_eq_some_iff.1 hx
      obtain ⟨ad, had, _, h⟩ := hr j hj
      injection had with had
      subst had
      rw [h, ← hv, e])
  rw [List.length_map, hl] at hc
  have hagg : (isAgg 147).run Try.prog w = .ok true w := by
    unfold isAgg
    rw [Sem.run_bind, run_underlying Try.underlying147 w]
    rfl
  have hsz : (sizeOf 147).run Try.prog w = .ok 32 w := by kernel_rfl
  unfold loadVar
  simp only [Sem.run_bind, hagg, Result.andThen_ok, if_true, hsz, hc, Sem.run_pure]
  rfl
theorem opv_ldNm {ρ : Operand → Value} {x : Operand} {w : World} {g : Nat} {E : TypeId} {cs : Array Value} {ty : TypeId} (hx : ρ x = .pointer (some ⟨g, 0, none⟩)) (hb : Bk w g E cs) (hs : cs.size = 32) :
    OpV Try.prog (.load 147 x) ty ρ w (fun v w2 => Below w.heap.size w w2 ∧ IsV (.agg cs) v w2) :=
  opv_val (by unfold execOp; simp [hx, Instr.loadAt, Instr.sureAddr, ldN hb hs]) ⟨gw_self _, rfl⟩
theorem arrN (A : Option Addr) (c : Nat) (W : World) : (Instr.arrayAt 147 (.slice A 32 c)).run Try.prog W = .ok (.pointer A) W := by
  unfold Instr.arrayAt
  rw [Sem.run_bind, run_underlying Try.underlying147 W]
  rfl
section
variable {ops : Array Oper} {rest : List Oper} {o : Oper} {a : Act} {w : World} {Q : Exit → Act → World → Prop}
theorem wp_loadRd {B : Nat} (hg : o.guard = none) (x : Operand) (ho : o.op = .load 147 x) (ad : Addr) (hx : a.eval x = .pointer (some ad)) (xs : Nm) (hr : Rd b8 w B (some ad) xs) (hl : nW xs)
    (h : wpList Try.prog ops Q rest (a.put o.dst (.agg (nC xs))) w) : wpList Try.prog ops Q (o :: rest) a w :=
  wpList_plain hg fun _ hK => by
    unfold Oper.wp execOp
    simp only [ho, hx, Instr.loadAt, Instr.sureAddr, Sem.run_bind, Sem.run_pure, Result.andThen_ok, ldRd hr hl]
    exact hK _ _ h
end
theorem opv_ldRd {ρ : Operand → Value} {x : Operand} {w : World} {B : Nat} {ad : Addr} {xs : Nm} {ty : TypeId} (hx : ρ x = .pointer (some ad)) (hr : Rd b8 w B (some ad) xs) (hl : nW xs) :
    OpV Try.prog (.load 147 x) ty ρ w (fun v w2 => Below w.heap.size w w2 ∧ IsV (.agg (nC xs)) v w2) :=
  opv_val (by unfold execOp; simp [hx, Instr.loadAt, Instr.sureAddr, ldRd hr hl]) ⟨gw_self _, rfl⟩
end Go.Proofs.Ytaminpfgkegibaa
/- What is wrong of words (pure); no program but names. No conditions. -/
namespace Go.Proofs.Ytaminpfgkegibaa
set_option linter.unusedVariables false
set_option linter.unusedSimpArgs false
open Go.RowKit Go.Maps
set_option maxHeartbeats 4000000
set_option maxRecDepth 100000
def magicS : ByteArray := ⟨#[109, 97, 103, 105, 99]⟩
def sizeS : ByteArray := ⟨#[115, 105, 122, 101]⟩
theorem ptrF_at (ws : List (BitVec 64)) (p : List Nat) (a n k : Nat) : ptrF ws p a (n + 1) k = (if ptrN ws p a k = true then [] else [(a + 1 + k, ptrS)]) ++ ptrF ws p a n (k + 1) := by
  show (if ptrN ws p a k = true then ptrF ws p a n (k + 1) else (a + 1 + k, ptrS) :: ptrF ws p a n (k + 1)) = _
  by_cases h : ptrN ws p a k = true
  · rw [if_pos h, if_pos h]; rfl
  · rw [if_neg h, if_neg h]; rfl
theorem found_good (ws : List (BitVec 64)) (t : Nat) : ∀ (n a : Nat), ∀ y ∈ (foundN ws t n a).1, a ≤ y ∧ y < t ∧ goodX (ws.getD y 0#64) (t - y) = true
  | 0, a, y, h => by cases h
  | n + 1, a, y, h => by
    unfold foundN at h
    by_cases h1 : a < t
    · rw [if_pos h1] at h
      by_cases h2 : goodX (ws.getD a 0#64) (t - a) = true
      · rw [if_pos h2] at h
        rcases List.mem_cons.1 h with rfl | h
        · exact ⟨Nat.le_refl _, h1, h2⟩
        · have := found_good ws t n _ y h
          exact ⟨by omega, this.2⟩
      · rw [if_neg h2] at h; cases h
    · rw [if_neg h1] at h; cases h
theorem found_len (ws : List (BitVec 64)) (t : Nat) : ∀ (n a : Nat), (foundN ws t n a).1.length ≤ t - a
  | 0, a => Nat.zero_le _
  | n + 1, a => by
    unfold foundN
    by_cases h1 : a < t
    · rw [if_pos h1]
      by_cases h2 : goodX (ws.getD a 0#64) (t - a) = true
      · rw [if_pos h2]
        have h3 := found_len ws t n (a + szX (ws.getD a 0#64))
        obtain ⟨_, _, _, hs, _, _⟩ := head_of h2
        show (foundN ws t n _).1.length + 1 ≤ _
        omega
      · rw [if_neg h2]; exact Nat.zero_le _
    · rw [if_neg h1]; exact Nat.zero_le _
def nameS : ByteArray := ⟨#[110, 97, 109, 101]⟩
def rootS : ByteArray := ⟨#[114, 111, 111, 116]⟩
def leadB (ws : List (BitVec 64)) (p : List Nat) (j : Nat) : Bool := decide ((ws.getD j 0#64).toNat = 0 ∨ (1 ≤ (ws.getD j 0#64).toNat ∧ (ws.getD j 0#64).toNat - 1 ∈ p))
def lessS (a b : ByteArray) : Bool := Op.bytesLess a.toList b.toList || a.toList == b.toList
def nmAt (ws : List (BitVec 64)) (i : Nat) : Nm := bytesM ws (8 * (2 + 5 * i)) 32
def nmS (ws : List (BitVec 64)) (i : Nat) : ByteArray := strB (cutN (nmAt ws i))
/-- What is wrong of a Root, the last name that may be one being given. -/
def rootE (ws : List (BitVec 64)) (p : List Nat) (i : Nat) (ab : ByteArray) : List (Nat × ByteArray) := (if nmOk (nmAt ws i) = true ∧ lessS (nmS ws i) ab = false then [] else [(2 + 5 * i, nameS)]) ++ (if leadB ws p (2 + 5 * i + 4) = true then [] else [(2 + 5 * i + 4, rootS)])
def rootF (ws : List (BitVec 64)) (p : List Nat) : Nat → Nat → ByteArray → List (Nat × ByteArray)
  | 0, _, _ => []
  | n + 1, i, ab => rootE ws p i ab ++ rootF ws p n (i + 1) (if nmOk (nmAt ws i) = true then nmS ws i else ab)
theorem cut_len32 (k : Nm) (hk : nW k) : (cutN k).length ≤ 32 := by
  have := cut_len k
  have : k.length = 32 := hk
  omega
theorem nmAt_w (ws : List (BitVec 64)) (i : Nat) : nW (nmAt ws i) := by unfold nmAt nW bytesM; simp
/-- What is wrong of words that say their own length. -/
def insF (ws : List (BitVec 64)) (R : Nat) : List (Nat × ByteArray) := badF (foundN ws ws.length (ws.length + 1) (2 + 5 * R)).2 ++ allE ws (foundN ws ws.length (ws.length + 1) (2 + 5 * R)).1 (foundN ws ws.length (ws.length + 1) (2 + 5 * R)).1 ++ rootF ws (foundN ws ws.length (ws.length + 1) (2 + 5 * R)).1 R 0 ⟨#[]⟩
def magF (ws : List (BitVec 64)) : List (Nat × ByteArray) := if ws.length = 0 ∨ ws.getD 0 0#64 ≠ 1296125772#64 then [(0, magicS)] else []
def nRt (ws : List (BitVec 64)) : Nat := (ws.getD 1 0#64).toNat % 65536
/-- Does the second word say what is? -/
def szOk (ws : List (BitVec 64)) : Bool := decide (2 ≤ ws.length ∧ U64 (fieldB (ws.getD 1 0#64) 48 16) = 0 ∧ U64 (fieldB (ws.getD 1 0#64) 16 32) = (ws.length : Int) ∧ nRt ws ≤ 64 ∧ 2 + 5 * nRt ws ≤ ws.length)
def imgF (ws : List (BitVec 64)) : List (Nat × ByteArray) := magF ws ++ (if szOk ws = true then insF ws (nRt ws) else [(1, sizeS)])
theorem of_ansk {P : Program} {f : FuncId} {args : Array Value} {v : Value} {w : World} (h : Ans P f args w v) : Calls P f args w fun e w2 => ∃ u, e = .returned u ∧ Below w.heap.size w w2 ∧ IsV v u w2 :=
  h.mono fun _ _ h => ⟨_, h.1, h.2.below _, rfl⟩
end Go.Proofs.Ytaminpfgkegibaa
/- The names that Check lets, as bytes. No conditions. -/
namespace Go.Proofs.Ytaminpfgkegibaa
set_option linter.unusedVariables false
set_option linter.unusedSimpArgs false
open Go.RowKit Go.Maps
set_option maxHeartbeats 1000000
theorem index_neg : ∀ l : List UInt8, Lib.indexByte l 0 < 0 → ∀ b ∈ l, b ≠ 0
  | [], _, b, hb => by cases hb
  | x :: l, h, b, hb => by
    have e : Lib.indexByte (x :: l) 0 = if (x == 0) = true then 0 else if (Lib.indexByte l 0 == -1) = true then -1 else Lib.indexByte l 0 + 1 := rfl
    rw [e] at h
    by_cases h1 : (x == 0) = true
    · rw [if_pos h1] at h; omega
    · rw [if_neg h1] at h
      have hl : Lib.indexByte l 0 < 0 := by
        by_cases h2 : (Lib.indexByte l 0 == -1) = true
        · have := eq_of_beq h2; omega
        · rw [if_neg h2] at h; omega
      rcases List.mem_cons.1 hb with rfl | hb
      · intro e0; rw [e0] at h1; exact h1 rfl
      · exact index_neg l hl b hb
def bitsOf (s : ByteArray) : Nm := s.data.toList.map UInt8.toBitVec
theorem strB_bits (s : ByteArray) : strB (bitsOf s) = s := by
  apply ByteArray.ext
  show (strL (s.data.toList.map UInt8.toBitVec)).toArray = s.data
  unfold strL
  rw [List.map_map, show (UInt8.ofBitVec ∘ UInt8.toBitVec) = id from rfl, List.map_id]
theorem bitsOf_len (s : ByteArray) : (bitsOf s).length = s.size := by
  unfold bitsOf
  rw [List.length_map]
  rfl
theorem good_bits {s : ByteArray} (h : goodS s = true) : goodN (bitsOf s) := by
  obtain ⟨h1, h2⟩ := goodS_size h
  have hl := bitsOf_len s
  refine ⟨by omega, by omega, fun x hx e => ?_⟩
  unfold goodS at h
  simp only [Bool.and_eq_true, decide_eq_true_eq] at h
  unfold bitsOf at hx
  obtain ⟨b, hb, rfl⟩ := List.mem_map.1 hx
  refine index_neg _ h.2.2 b hb ?_
  have := congrArg UInt8.ofBitVec e
  exact this
theorem nameW_pad (s : ByteArray) : nameW s = padNm (bitsOf s) := by
  unfold nameW padNm
  rw [bitsOf_len]
  rfl
end Go.Proofs.Ytaminpfgkegibaa
