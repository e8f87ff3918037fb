/- Texts joined: OpenP AnyR ObG ObH CardA ObI ObJ. -/
import Derived.Test.YtfodefgihicafaaDoorOa7
import Derived.Deep.Matrix
import Derived.Test.YtfodefgihicafaaDoorRows
import Derived.Test.YtfodefgihicafaaDoorTie
import Derived.Test.YtfodefgihicafaaDoorCards
import Derived.Lib.LaidTab
import Derived.LaidMore
import Derived.SevenTiedAt
import Derived.Stop.LaidErr
/- How an argument of type [][]byte is opened. No conditions. -/
namespace Go.Proofs.YtfodefgihicafaaDoor
set_option linter.unusedVariables false
set_option linter.unusedSimpArgs false
open Go.ChangeShapes Go.WideShapes Go.ChangeAt Go.RowKit
theorem bytes_rd {W : World} {y : Option Addr} {l c : Nat} {Z : List Int} (hl : l ≤ c) (hz : Z.length = c) (hwf : ∀ n ∈ Z, (Lit.int .u8 n).wf = true) (hn : y = none → c = 0)
    (h : ∀ a', y = some a' → ∀ k, k < c → W.cell? (a'.add k) = some (.int .u8 (Z.getD k 0))) : ∃ bs : List (BitVec 8), bs.length = l ∧ Rd b8 W W.heap.size y bs := by
  refine ⟨(Z.take l).map (BitVec.ofInt 8), by simp; omega, fun j hj => ?_⟩
  have hj' : j < l := by simp at hj; omega
  rcases y with _ | a'
  · have := hn rfl; omega
  · have hc := h a' rfl j (by omega)
    have hb := cell_lt hc
    rw [add_block] at hb
    refine ⟨a', rfl, hb, ?_⟩
    rw [hc]
    have hw := hwf (Z.getD j 0) (by rw [List.getD_eq_getElem?_getD, List.getElem?_eq_getElem (by omega)]; exact List.getElem_mem _)
    rw [wfu8 hw]
    have e : Z.getD j 0 = Z[j]'(by omega) := by rw [List.getD_eq_getElem?_getD, List.getElem?_eq_getElem (by omega)]; rfl
    rw [e]
    simp [b8]
theorem choose_list {α : Type} {p : Nat → α → Prop} : ∀ n : Nat, (∀ r, r < n → ∃ x, p r x) → ∃ l : List α, l.length = n ∧ ∀ r (h : r < l.length), p r l[r]
  | 0, _ => ⟨[], rfl, fun r h => absurd h (by simp)⟩
  | n + 1, h => by
    obtain ⟨l, hl, hp⟩ := choose_list n fun r hr => h r (by omega)
    obtain ⟨x, hx⟩ := h n (by omega)
    refine ⟨l ++ [x], by simp [hl], fun r hr => ?_⟩
    rw [List.getElem_append]
    split
    · exact hp r _
    · have : r = n := by simp at hr; omega
      subst this
      simpa using hx
theorem open_parts {H : Type} {enc : TypeId × Value → H} {P : Program} {W : World} {base : Nat} {hd : Bool} {r : Reach} {b0 : Nat} {t e q : TypeId} {v : Value} {d : DataW H} {p : List MemPlace}
    (ht : P.underlying t = some (.slice e)) (he : P.underlying e = some (.slice q)) (hq : P.underlying q = some (.int .u8)) (ce : P.cellsOf e = 1) (cq : P.cellsOf q = 1)
    (hv : Value.okWide P W r b0 t v) (h : DataW.Trod enc P W base (fun _ => true) hd t v d p) :
    ∃ (A : Option Addr) (ps : List Pt) (c : Nat), v = .slice A ps.length c ∧ ps.length ≤ c ∧ c ≤ maxLen ∧ Rd Pt.v W W.heap.size A ps ∧ ∀ x ∈ ps, x.2.1.length ≤ x.2.2 ∧ Rd b8 W W.heap.size x.1 x.2.1 := by
  obtain ⟨a0, len, cap, rfl⟩ := okWide_slice ht hv
  obtain ⟨fuel, hf⟩ := h
  rcases Go.Deep.open_int_rows ht he hq ce cq hf with ⟨hcs, _⟩ | ⟨a, l, c, A, L, C, Z, hcs, _, hl, hm, _, hrow⟩
  · simp [Value.cells] at hcs
    obtain ⟨rfl, rfl, rfl⟩ := hcs
    exact ⟨none, [], 0, rfl, Nat.le_refl _, by simp [maxLen], Rd.nil, fun x hx => by cases hx⟩
  · simp [Value.cells] at hcs
    obtain ⟨rfl, rfl, rfl⟩ := hcs
    obtain ⟨ps, hps, hp⟩ := choose_list (α := Pt) (p := fun i x => x.1 = A i ∧ x.2.1.length = L i ∧ x.2.2 = C i ∧ L i ≤ C i ∧ Rd b8 W W.heap.size x.1 x.2.1 ∧ W.cell? (a.add i) = some x.v) len (fun i hi => by
      obtain ⟨h1, h2, h3, h4, h5, h6, h7⟩ := hrow i (by omega)
      obtain ⟨bs, hb, hr⟩ := bytes_rd (W := W) (y := A i) h2 h4 h5 h6 (fun a' ha => (h7 a' ha).2)
      exact ⟨(A i, bs, C i), rfl, hb, rfl, h2, hr, by rw [h1]; show _ = some (Value.slice (A i) bs.length (C i)); rw [hb]⟩)
    subst hps
    refine ⟨some a, ps, cap, rfl, hl, hm, fun j hj => ?_, fun x hx => ?_⟩
    · obtain ⟨_, _, _, _, _, h6⟩ := hp j hj
      have hb := cell_lt h6
      rw [add_block] at hb
      exact ⟨a, rfl, hb, h6⟩
    · obtain ⟨j, hj, rfl⟩ := List.getElem_of_mem hx
      obtain ⟨_, h2, h3, h4, h5, _⟩ := hp j hj
      exact ⟨by rw [h2, h3]; exact h4, h5⟩
end Go.Proofs.YtfodefgihicafaaDoor
/- The last region of SumsAny. Conditions: lengths. -/
namespace Go.Proofs.YtfodefgihicafaaDoor
set_option linter.unusedVariables false
set_option linter.unusedSimpArgs false
open Go.RowKit
theorem of_ret {P : Program} {f : FuncId} {args : Array Value} {v : Value} {w : World} (h : Calls P f args w (RetP v w)) : Calls P f args w fun e w2 => ∃ u, e = .returned u ∧ Below w.heap.size w w2 ∧ IsV v u w2 :=
  h.mono fun _ _ h => ⟨_, h.1, h.2, rfl⟩
theorem of_mk {P : Program} {g : FuncId} {args : Array Value} {α : Type} {f : α → Value} {E : TypeId} {xs : List α} {w : World} (h : Calls P g args w (MkP f E xs w)) : Calls P g args w fun e w2 => ∃ u, e = .returned u ∧ Below w.heap.size w w2 ∧ SlV f xs u w2 :=
  h.mono fun e w2 h => by
    obtain ⟨A, c, rfl, hc, ho, hb⟩ := h
    exact ⟨_, rfl, hb, A, c, rfl, hc, ho.rd⟩
theorem rightL_seal (zs : List (BitVec 8)) : rightL (sealC zs) = true := by
  have hn : (sealC zs).length = zs.length + 4 := by simp [sealC, tailL]
  rw [rightL_yes _ (by omega), hn, Nat.add_sub_cancel]
  unfold sealC
  rw [List.take_left, List.drop_left]
  simp
theorem conv_sl {xs : List (BitVec 8)} {v : Value} {w : World} (h : SlV b8 xs v w) : (convert 30 9 v).run Tryd.prog w = .ok (.string (strB xs)) w := by
  obtain ⟨A, c, rfl, _, hr⟩ := h
  exact str_conv xs A c _ w hr
set_option maxRecDepth 100000
set_option maxHeartbeats 400000
end Go.Proofs.YtfodefgihicafaaDoor
/- obj.Text at an object of one pointer and three bytes (as loamlaw16.known asks). Conditions: the table deBruijn64tab. -/
namespace Go.Proofs.YtfodefgihicafaaDoor
set_option linter.unusedVariables false
set_option linter.unusedSimpArgs false
open Go.RowKit
set_option maxHeartbeats 1000000
set_option maxRecDepth 100000
theorem itoa_r (i : Nat) (hi : i < 10) (w : World) : Calls Tryd.prog 51 #[.int .i64 i] w (RetP (.string (strB [BitVec.ofNat 8 (48 + i)])) w) :=
  (itoa_c i hi w).mono fun _ _ h => ⟨h.1, h.2 ▸ Below.refl _ _⟩
theorem addS1 : strB [49#8] ++ ⟨#[32]⟩ = strB [49#8, 32#8] := rfl
theorem addS2 : strB [49#8, 32#8] ++ strB [51#8] = strB [49#8, 32#8, 51#8] := rfl
theorem addS3 : strB [49#8, 32#8, 51#8] ++ ⟨#[58]⟩ = strB [49#8, 32#8, 51#8, 58#8] := rfl
theorem addS4 : ⟨#[32]⟩ ++ strB [48#8] = strB [32#8, 48#8] := rfl
theorem tx_r (Q : Exit → Act → World → Prop) (a0 : Act) (w : World) (hb bd : Nat) (hh : hb < w.heap.size) (c0 : w.cell? ⟨hb, 0, none⟩ = some (.int .i64 1)) (c1 : w.cell? ⟨hb, 1, none⟩ = some (.int .i64 3)) (hsz : a0.tmps.size = 90) (sl5 : a0.tmps.getD 5 undef = .pointer (some ⟨hb, 0, none⟩))
    (fin : ∀ (vals : Nat → Value) (w1 : World), Below w.heap.size w w1 → (IsV (.string (strB [49#8, 32#8, 51#8, 58#8]))) (vals 8) w1 → wpList Tryd.prog #[{ dst := some 33, op := Go.Op.call { callee := Go.Callee.value (Go.Operand.func 50), args := #[Go.Operand.tmp 7, Go.Operand.tmp 32], argTypes := #[101, 9] }, type := 104, pos := "", after := #[], guard := none }] Q [{ dst := some 33, op := Go.Op.call { callee := Go.Callee.value (Go.Operand.func 50), args := #[Go.Operand.tmp 7, Go.Operand.tmp 32], argTypes := #[101, 9] }, type := 104, pos := "", after := #[], guard := none }] (putD vals [24, 25, 26, 27, 28, 29, 30, 31, 32] 0 a0) w1) :
    (Code.region 5 (regIn Tryd.f20 5) true).wp Tryd.prog Q a0 w := by
  refine region_by_tail (m := 9) (G := fun w w1 => Below w.heap.size w w1) [IsV (.pointer (some ⟨hb, 0, none⟩)),
    IsV (.int .i64 1),
    IsV (.string (strB [49#8])),
    IsV (.string (strB [49#8, 32#8])),
    IsV (.pointer (some ⟨hb, 1, none⟩)),
    IsV (.int .i64 3),
    IsV (.string (strB [51#8])),
    IsV (.string (strB [49#8, 32#8, 51#8])),
    IsV (.string (strB [49#8, 32#8, 51#8, 58#8]))]
    [24, 25, 26, 27, 28, 29, 30, 31, 32] (by kernel_rfl) (Gw.drew _) Gw.trans (by rw [hsz]; kernel_rfl) (by kernel_rfl) ?_ ?_ ?_
  · intro f hf
    simp only [List.mem_cons, List.not_mem_nil, or_false] at hf
    rcases hf with rfl | rfl | rfl | rfl | rfl | rfl | rfl | rfl | rfl <;> intro v a b h g <;> first | exact IsV.mono h
  · refine ⟨?_, ?_, ?_, ?_, ?_, ?_, ?_, ?_, ?_, trivial⟩
    · refine owes_v (Go.Op.fieldAddr 60 (Go.Operand.tmp 5) 0) 0 [] (by kernel_rfl) (by kernel_rfl) (by kernel_rfl) rfl fun vals w1 ρ hG hF hρ hcst hfun => ?_
      have e5 : ρ (.tmp 5) = .pointer (some ⟨hb, 0, none⟩) := ((hρ 5).trans (slotO [] (by kernel_rfl))).trans sl5
      clear hρ hF hcst hfun sl5 fin
      exact opv_val (by go_simp <;> rfl) ⟨gw_self _, rfl⟩
    · refine owes_v (Go.Op.load 3 (Go.Operand.tmp 24)) 3 [0] (by kernel_rfl) (by kernel_rfl) (by kernel_rfl) rfl fun vals w1 ρ hG hF hρ hcst hfun => ?_
      have e24 : ρ (.tmp 24) = .pointer (some ⟨hb, 0, none⟩) := ((hρ 24).trans (slotJ [0] (by rw [hsz]; decide) (by kernel_rfl))).trans (hF 0 (by decide))
      have k := (hG.cell (p := ⟨hb, 0, none⟩) hh).trans c0
      clear hρ hF hcst hfun sl5 fin
      exact opv_val (by go_simp <;> rfl) ⟨gw_self _, rfl⟩
    · refine owes_v (Go.Op.call { callee := Go.Callee.value (Go.Operand.func 51), args := #[Go.Operand.tmp 25], argTypes := #[3] }) 9 [1] (by kernel_rfl) (by kernel_rfl) (by kernel_rfl) rfl fun vals w1 ρ hG hF hρ hcst hfun => ?_
      have e25 : ρ (.tmp 25) = .int .i64 1 := ((hρ 25).trans (slotJ [1] (by rw [hsz]; decide) (by kernel_rfl))).trans (hF 1 (by decide))
      clear hρ hF hcst sl5 fin
      exact opv_enter (by go_simp <;> rfl) (of_ret (itoa_r 1 (by decide) _))
    · refine owes_v (Go.Op.binOp Go.BinOp.add 9 (Go.Operand.tmp 26) (Go.Operand.const (Go.Value.string { data := #[32] })) 9) 9 [2] (by kernel_rfl) (by kernel_rfl) (by kernel_rfl) rfl fun vals w1 ρ hG hF hρ hcst hfun => ?_
      have e26 : ρ (.tmp 26) = .string (strB [49#8]) := ((hρ 26).trans (slotJ [2] (by rw [hsz]; decide) (by kernel_rfl))).trans (hF 2 (by decide))
      have k := addS1; have k2 : (strB [49#8]).size = 1 := rfl
      clear hρ hF hfun sl5 fin
      exact opv_val (by go_simp <;> rfl) ⟨gw_self _, rfl⟩
    · refine owes_v (Go.Op.fieldAddr 60 (Go.Operand.tmp 5) 1) 0 [] (by kernel_rfl) (by kernel_rfl) (by kernel_rfl) rfl fun vals w1 ρ hG hF hρ hcst hfun => ?_
      have e5 : ρ (.tmp 5) = .pointer (some ⟨hb, 0, none⟩) := ((hρ 5).trans (slotO [] (by kernel_rfl))).trans sl5
      clear hρ hF hcst hfun sl5 fin
      exact opv_val (by go_simp <;> rfl) ⟨gw_self _, rfl⟩
    · refine owes_v (Go.Op.load 3 (Go.Operand.tmp 28)) 3 [4] (by kernel_rfl) (by kernel_rfl) (by kernel_rfl) rfl fun vals w1 ρ hG hF hρ hcst hfun => ?_
      have e28 : ρ (.tmp 28) = .pointer (some ⟨hb, 1, none⟩) := ((hρ 28).trans (slotJ [4] (by rw [hsz]; decide) (by kernel_rfl))).trans (hF 4 (by decide))
      have k := (hG.cell (p := ⟨hb, 1, none⟩) hh).trans c1
      clear hρ hF hcst hfun sl5 fin
      exact opv_val (by go_simp <;> rfl) ⟨gw_self _, rfl⟩
    · refine owes_v (Go.Op.call { callee := Go.Callee.value (Go.Operand.func 51), args := #[Go.Operand.tmp 29], argTypes := #[3] }) 9 [5] (by kernel_rfl) (by kernel_rfl) (by kernel_rfl) rfl fun vals w1 ρ hG hF hρ hcst hfun => ?_
      have e29 : ρ (.tmp 29) = .int .i64 3 := ((hρ 29).trans (slotJ [5] (by rw [hsz]; decide) (by kernel_rfl))).trans (hF 5 (by decide))
      clear hρ hF hcst sl5 fin
      exact opv_enter (by go_simp <;> rfl) (of_ret (itoa_r 3 (by decide) _))
    · refine owes_v (Go.Op.binOp Go.BinOp.add 9 (Go.Operand.tmp 27) (Go.Operand.tmp 30) 9) 9 [3, 6] (by kernel_rfl) (by kernel_rfl) (by kernel_rfl) rfl fun vals w1 ρ hG hF hρ hcst hfun => ?_
      have e27 : ρ (.tmp 27) = .string (strB [49#8, 32#8]) := ((hρ 27).trans (slotJ [3, 6] (by rw [hsz]; decide) (by kernel_rfl))).trans (hF 3 (by decide))
      have e30 : ρ (.tmp 30) = .string (strB [51#8]) := ((hρ 30).trans (slotJ [3, 6] (by rw [hsz]; decide) (by kernel_rfl))).trans (hF 6 (by decide))
      have k := addS2; have k2 : (strB [49#8, 32#8]).size = 2 := rfl; have k3 : (strB [51#8]).size = 1 := rfl
      clear hρ hF hcst hfun sl5 fin
      exact opv_val (by go_simp <;> rfl) ⟨gw_self _, rfl⟩
    · refine owes_v (Go.Op.binOp Go.BinOp.add 9 (Go.Operand.tmp 31) (Go.Operand.const (Go.Value.string { data := #[58] })) 9) 9 [7] (by kernel_rfl) (by kernel_rfl) (by kernel_rfl) rfl fun vals w1 ρ hG hF hρ hcst hfun => ?_
      have e31 : ρ (.tmp 31) = .string (strB [49#8, 32#8, 51#8]) := ((hρ 31).trans (slotJ [7] (by rw [hsz]; decide) (by kernel_rfl))).trans (hF 7 (by decide))
      have k := addS3; have k2 : (strB [49#8, 32#8, 51#8]).size = 3 := rfl
      clear hρ hF hfun sl5 fin
      exact opv_val (by go_simp <;> rfl) ⟨gw_self _, rfl⟩
  · intro vals w1 hG hF
    exact last_list (by kernel_rfl) (by kernel_rfl) (by kernel_rfl) (fin vals w1 hG (hF 8 (by decide +kernel)))
/-- A builder and a row of bytes beside it. -/
structure TxS (W : World) (B bd : Nat) (v : Value) (xs : List (BitVec 8)) (q : Nat) (bs : List (BitVec 8)) : Prop where
  at_ : BdAt W B bd v xs
  hB : B ≤ W.heap.size
  lt : q < W.heap.size
  rd : ∀ (j : Nat) (h : j < bs.length), W.cell? ⟨q, j, none⟩ = some (b8 bs[j])
  ne : q ≠ bd
  no : v.ownBlock ≠ some q
theorem TxS.step {w w' : World} {B bd q : Nat} {v v' : Value} {xs ys bs : List (BitVec 8)} (h : TxS w B bd v xs q bs) (h2 : BdAt w' B bd v' ys) (k : BdK w w' bd v v') : TxS w' B bd v' ys q bs := by
  refine ⟨h2, Nat.le_trans h.hB k.two.size, Nat.lt_of_lt_of_le h.lt k.two.size, fun j hj => ?_, h.ne, ?_⟩
  · rw [← h.rd j hj]
    have hb := k.two.block q h.lt h.ne (fun e => h.no e.symm)
    unfold World.cell?
    simp only
    rw [hb]
  · rcases k.row with e | ⟨m, e, hm⟩
    · rw [e]; exact h.no
    · rw [e]; intro e2; injection e2 with e2; have := h.lt; omega
theorem TxS.below {w w' : World} {B bd q : Nat} {v : Value} {xs bs : List (BitVec 8)} (h : TxS w B bd v xs q bs) (k : Below w.heap.size w w') : TxS w' B bd v xs q bs :=
  ⟨h.at_.below k, Nat.le_trans h.hB k.size, Nat.lt_of_lt_of_le h.lt k.size, fun j hj => (k.cell (p := ⟨q, j, none⟩) h.lt).trans (h.rd j hj), h.ne, h.no⟩
theorem ws_q (w : World) (B b q : Nat) (v : Value) (xs ys zs bs : List (BitVec 8)) (sv : ByteArray) (hs : sv = strB ys) (hz : zs = xs ++ ys) (h : TxS w B b v xs q bs) (hl : xs.length + ys.length ≤ 4294967296) :
    Calls Tryd.prog 50 #[.pointer (some ⟨b, 0, none⟩), .string sv] w fun e w' => (∃ n v', e = .returned (.tuple #[.int .i64 n, .nilIface]) ∧ TxS w' B b v' zs q bs) ∧ Below B w w' := by
  subst hs hz
  refine (writeString_c w B b v xs ys h.at_ hl h.hB).mono ?_
  rintro e w' ⟨v', rfl, h2, k⟩
  exact ⟨⟨_, v', rfl, h.step h2 k⟩, h.at_.kb k h.hB⟩
theorem wb_q (w : World) (B b q : Nat) (v : Value) (xs bs : List (BitVec 8)) (c : BitVec 8) (h : TxS w B b v xs q bs) (hl : xs.length + 1 ≤ 4294967296) :
    Calls Tryd.prog 52 #[.pointer (some ⟨b, 0, none⟩), .int .u8 (U8 c)] w fun e w' => (∃ v', e = .returned .nilIface ∧ TxS w' B b v' (xs ++ [c]) q bs) ∧ Below B w w' := by
  refine (writeByte_c w B b v xs c h.at_ hl h.hB).mono ?_
  rintro e w' ⟨v', rfl, h2, k⟩
  exact ⟨⟨v', rfl, h.step h2 k⟩, h.at_.kb k h.hB⟩
theorem bd_new (w : World) : BdAt (w.alloc (.cells #[.pointer none, .slice none 0 0] 101)) w.heap.size w.heap.size (.slice none 0 0) [] :=
  ⟨Nat.le_refl _, ⟨_, .inl rfl, Bk.new w _ _⟩, ⟨rfl, .inl ⟨rfl, rfl⟩⟩⟩
theorem ws_0 (w : World) (B b : Nat) (v : Value) (xs ys zs : List (BitVec 8)) (hz : zs = xs ++ ys) (h : BdAt w B b v xs) (hB : B ≤ w.heap.size) (hl : xs.length + ys.length ≤ 4294967296) :
    Calls Tryd.prog 50 #[.pointer (some ⟨b, 0, none⟩), .string (strB ys)] w fun e w' => (∃ n v', e = .returned (.tuple #[.int .i64 n, .nilIface]) ∧ BdAt w' B b v' zs) ∧ Below B w w' := by
  subst hz
  refine (writeString_c w B b v xs ys h hl hB).mono ?_
  rintro e w' ⟨v', rfl, h2, k⟩
  exact ⟨⟨_, v', rfl, h2⟩, h.kb k hB⟩
theorem fuk (w : World) (x : BitVec 8) (h : w.cell? ⟨2, 15, none⟩ = some (.int .u8 4)) (ys : List (BitVec 8)) (hy : [hexU (x.toNat / 16), hexU (x.toNat % 16)] = ys) :
    Calls Tryd.prog 53 #[.int .u64 (bits .or .u64 256 (U8 x)), .int .i64 16] w (RetP (.string (strB (49#8 :: ys))) w) := by
  subst hy
  exact fu_c w h x
/-- What is told of the object. -/
structure TxP (w : World) (s : Nat) (a : Int) : Prop where
  look : ∀ W, Below w.heap.size w W → Calls Tryd.prog 43 #[.pointer (some ⟨s, 0, none⟩), .int .i64 a] W (RetP (.tuple #[.agg #[.int .i64 1, .int .i64 3, .bool false, .int .i64 0], .int .i64 0]) W)
  ptr : ∀ W, Below w.heap.size w W → Calls Tryd.prog 9 #[.pointer (some ⟨s, 0, none⟩), .int .i64 a, .int .i64 0] W (RetP (.tuple #[.int .i64 0, .int .i64 0]) W)
  read : ∀ W, Below w.heap.size w W → Calls Tryd.prog 13 #[.pointer (some ⟨s, 0, none⟩), .int .i64 a, .int .i64 0, .int .i64 3] W (MkEP b8 5 [0#8, 120#8, 0#8] 0 W)
  tab : w.cell? ⟨2, 15, none⟩ = some (.int .u8 4)
theorem text_k (w : World) (s : Nat) (a : Int) (h : TxP w s a) :
    Calls Tryd.prog 20 #[.pointer (some ⟨s, 0, none⟩), .int .i64 a] w (RetP (.string (strB [49#8, 32#8, 51#8, 58#8, 32#8, 48#8, 32#8, 48#8, 48#8, 55#8, 56#8, 48#8, 48#8])) w) := by
  have H := Lib.hid h
  have h2w : 2 < w.heap.size := by
    have h := h.tab
    unfold World.cell? at h
    cases hh : w.heap[2]? with
    | none => rw [hh] at h; cases h
    | some o => exact (Array.getElem?_eq_some_iff.1 hh).1
  have H2 := Lib.hid h2w
  clear h h2w
  go_enter Tryd.func20, Tryd.ntmps20
  go_wp2_with fail
  refine Calls.mono (H.out.look w (Below.refl _ _)) ?_
  rintro e w1 ⟨rfl, hb1⟩
  have HB1 := Lib.hid hb1
  clear hb1
  go_wp2_with fail
  have hsz1 : (w1.alloc (.cells #[.int .i64 1, .int .i64 3, .bool false, .int .i64 0] 60)).heap.size = w1.heap.size + 1 := World.size_alloc _ _
  have hbn := bd_new (w1.alloc (.cells #[.int .i64 1, .int .i64 3, .bool false, .int .i64 0] 60))
  rw [hsz1] at hbn
  have hkb := (Bk.new w1 60 #[.int .i64 1, .int .i64 3, .bool false, .int .i64 0]).alloc (.cells #[.pointer none, .slice none 0 0] 101)
  have hbl := HB1.out.trans (((Gw.alloc w1 (.cells #[.int .i64 1, .int .i64 3, .bool false, .int .i64 0] 60)).trans ((Gw.alloc _ (.cells #[.pointer none, .slice none 0 0] 101)).mono (Gw.alloc w1 _).size)).mono HB1.out.size)
  have hs2 : w1.heap.size + 1 ≤ ((w1.alloc (.cells #[.int .i64 1, .int .i64 3, .bool false, .int .i64 0] 60)).alloc (.cells #[.pointer none, .slice none 0 0] 101)).heap.size := by
    rw [World.size_alloc, hsz1]; omega
  clear hsz1
  generalize ((w1.alloc (.cells #[.int .i64 1, .int .i64 3, .bool false, .int .i64 0] 60)).alloc (.cells #[.pointer none, .slice none 0 0] 101)) = w2 at hbn hkb hbl hs2 ⊢
  obtain ⟨q, hq⟩ : ∃ q, q = w1.heap.size := ⟨_, rfl⟩
  have hqw : w.heap.size ≤ q := by rw [hq]; exact HB1.out.size
  rw [← hq] at hbn hkb hs2 ⊢
  clear hq HB1
  have HQ := Lib.hid hqw
  have HK := Lib.hid hkb
  have HL := Lib.hid hbl
  have HN := Lib.hid hbn
  have HS := Lib.hid hs2
  clear hbn hkb hbl hs2 hqw
  refine tx_r _ _ _ q (q + 1) (by have := HS.out; omega) (HK.out.cell 0) (HK.out.cell 1) ?_ ?_ ?_
  · rfl
  · rfl
  intro vals w3 hG h32
  unfold IsV at h32
  simp only [putD, Act.put, List.setIfInBounds_toArray, List.set_cons_zero, List.set_cons_succ, h32]
  have HN3 := Lib.hid (HN.out.below hG)
  have HK3 := Lib.hid (HK.out.below hG HK.out.lt)
  have HL3 := Lib.hid (HL.out.trans (hG.mono HL.out.size))
  have HS3 := Lib.hid (Nat.le_trans HS.out hG.size)
  clear hG h32
  go_wp2_with fail
  refine Calls.mono (ws_0 _ _ _ _ [] [49#8, 32#8, 51#8, 58#8] [49#8, 32#8, 51#8, 58#8] rfl HN3.out HS3.out (by decide)) ?_
  rintro e w4 ⟨⟨n4, v4, rfl, hb4⟩, hw4⟩
  have hk4 := HK3.out.below hw4 (Nat.lt_succ_self q)
  have c0 := hk4.cell 0
  have c1 := hk4.cell 1
  have H4 := Lib.hid (And.intro hb4 (And.intro (HL3.out.trans (hw4.mono (Nat.le_trans HQ.out (Nat.le_succ q)))) (And.intro hk4 (Nat.le_trans HS3.out hw4.size))))
  clear hb4 hw4 hk4 HN3 HK3 HL3 HS3 HN HK HL HS
  go_wp2_with fail
  refine wp_loop_rounds 2 ?_
  rw [rounds_succ]
  go_wp2_with fail
  refine Calls.mono (H.out.ptr w4 H4.out.2.1) ?_
  rintro e w5 ⟨rfl, hb5⟩
  have H5 := Lib.hid (And.intro (H4.out.1.below hb5) (And.intro (H4.out.2.1.trans (hb5.mono H4.out.2.1.size)) (And.intro (H4.out.2.2.1.below hb5 H4.out.2.2.1.lt) (Nat.le_trans H4.out.2.2.2 hb5.size))))
  clear hb5 H4 c0 c1
  have a4 := addS4
  have a5 : (strB [48#8]).size = 1 := rfl
  go_wp2_with fail
  refine Calls.mono (itoa_r 0 (by decide) _) ?_
  rintro e w6 ⟨rfl, hb6⟩
  have H6 := Lib.hid (And.intro (H5.out.1.below hb6) (And.intro (H5.out.2.1.trans (hb6.mono H5.out.2.1.size)) (And.intro (H5.out.2.2.1.below hb6 H5.out.2.2.1.lt) (Nat.le_trans H5.out.2.2.2 hb6.size))))
  clear hb6 H5
  go_wp2_with fail
  refine Calls.mono (ws_0 _ _ _ _ _ [32#8, 48#8] [49#8, 32#8, 51#8, 58#8, 32#8, 48#8] rfl H6.out.1 H6.out.2.2.2 (by decide)) ?_
  rintro e w7 ⟨⟨n7, v7, rfl, hb7⟩, hw7⟩
  have hk7 := H6.out.2.2.1.below hw7 (Nat.lt_succ_self q)
  have c1 := hk7.cell 1
  have H7 := Lib.hid (And.intro hb7 (And.intro (H6.out.2.1.trans (hw7.mono (Nat.le_trans HQ.out (Nat.le_succ q)))) (Nat.le_trans H6.out.2.2.2 hw7.size)))
  clear hb7 hw7 hk7 H6
  go_wp2_with fail
  rw [rounds_succ]
  go_wp2_with fail
  refine Calls.mono (H.out.read w7 H7.out.2.1) ?_
  rintro e w8 ⟨A, c8, rfl, hc8, ho8, hb8⟩
  obtain ⟨r, rfl⟩ : ∃ r, A = some ⟨r, 0, none⟩ := by
    rcases ho8.2 with ⟨e, hn⟩ | ⟨g, _, _, e, _⟩
    · cases hn
    · injection e with e
      exact ⟨g, e⟩
  have hr8 := ho8.ge
  have T8 : TxS w8 (q + 1) (q + 1) v7 [49#8, 32#8, 51#8, 58#8, 32#8, 48#8] r [0#8, 120#8, 0#8] := by
    refine ⟨H7.out.1.below hb8, Nat.le_trans H7.out.2.2 hb8.size, hr8.2, fun j hj => ho8.cell hj, ?_, ?_⟩
    · intro e
      have := H7.out.1.lt
      omega
    · intro e
      have := (H7.out.1.own.lt r e).2
      omega
  have H8 := Lib.hid (And.intro T8 (H7.out.2.1.trans (hb8.mono H7.out.2.1.size)))
  clear T8 hb8 ho8 hr8 H7 c1 a4 a5
  have hc8' : (3 : Int) ≤ c8 := by have : 3 ≤ c8 := hc8; omega
  go_wp2_with fail
  refine Calls.mono (wb_q _ _ _ _ _ _ _ 32#8 H8.out.1 (by decide)) ?_
  rintro e w9 ⟨⟨v9, rfl, T9⟩, hw9⟩
  have H9 := Lib.hid (And.intro T9 (H8.out.2.trans (hw9.mono (Nat.le_trans HQ.out (Nat.le_succ q)))))
  have d0 : w9.cell? ⟨r, 0, none⟩ = some (.int .u8 0) := T9.rd 0 (by decide)
  clear T9 hw9 H8
  go_wp2_with fail
  refine wp_loop_rounds 4 ?_
  rw [rounds_succ]
  go_wp2_with fail
  refine Calls.mono (fuk _ 0#8 (cell_later H9.out.2 H.out.tab) [48#8, 48#8] rfl) ?_
  rintro e w10 ⟨rfl, hb10⟩
  have H10 := Lib.hid (And.intro (H9.out.1.below hb10) (H9.out.2.trans (hb10.mono H9.out.2.size)))
  clear d0 hb10 H9
  have x0 : (strB [49#8, 48#8, 48#8]).size = 3 := rfl
  have x1 : (strB [49#8, 48#8, 48#8]).extract 1 3 = strB [48#8, 48#8] := rfl
  go_wp2_with fail
  refine Calls.mono (ws_q _ _ _ _ _ _ [48#8, 48#8] [49#8, 32#8, 51#8, 58#8, 32#8, 48#8, 32#8, 48#8, 48#8] _ _ rfl rfl H10.out.1 (by decide)) ?_
  rintro e w11 ⟨⟨n11, v11, rfl, T11⟩, hw11⟩
  have H11 := Lib.hid (And.intro T11 (H10.out.2.trans (hw11.mono (Nat.le_trans HQ.out (Nat.le_succ q)))))
  have d1 : w11.cell? ⟨r, 1, none⟩ = some (.int .u8 120) := T11.rd 1 (by decide)
  clear T11 hw11 H10 x0 x1
  go_wp2_with fail
  rw [rounds_succ]
  go_wp2_with fail
  refine Calls.mono (fuk _ 120#8 (cell_later H11.out.2 H.out.tab) [55#8, 56#8] rfl) ?_
  rintro e w12 ⟨rfl, hb12⟩
  have H12 := Lib.hid (And.intro (H11.out.1.below hb12) (H11.out.2.trans (hb12.mono H11.out.2.size)))
  clear d1 hb12 H11
  have x0 : (strB [49#8, 55#8, 56#8]).size = 3 := rfl
  have x1 : (strB [49#8, 55#8, 56#8]).extract 1 3 = strB [55#8, 56#8] := rfl
  go_wp2_with fail
  refine Calls.mono (ws_q _ _ _ _ _ _ [55#8, 56#8] [49#8, 32#8, 51#8, 58#8, 32#8, 48#8, 32#8, 48#8, 48#8, 55#8, 56#8] _ _ rfl rfl H12.out.1 (by decide)) ?_
  rintro e w13 ⟨⟨n13, v13, rfl, T13⟩, hw13⟩
  have H13 := Lib.hid (And.intro T13 (H12.out.2.trans (hw13.mono (Nat.le_trans HQ.out (Nat.le_succ q)))))
  have d2 : w13.cell? ⟨r, 2, none⟩ = some (.int .u8 0) := T13.rd 2 (by decide)
  clear T13 hw13 H12 x0 x1
  go_wp2_with fail
  rw [rounds_succ]
  go_wp2_with fail
  refine Calls.mono (fuk _ 0#8 (cell_later H13.out.2 H.out.tab) [48#8, 48#8] rfl) ?_
  rintro e w14 ⟨rfl, hb14⟩
  have H14 := Lib.hid (And.intro (H13.out.1.below hb14) (H13.out.2.trans (hb14.mono H13.out.2.size)))
  clear d2 hb14 H13
  have x0 : (strB [49#8, 48#8, 48#8]).size = 3 := rfl
  have x1 : (strB [49#8, 48#8, 48#8]).extract 1 3 = strB [48#8, 48#8] := rfl
  go_wp2_with fail
  refine Calls.mono (ws_q _ _ _ _ _ _ [48#8, 48#8] [49#8, 32#8, 51#8, 58#8, 32#8, 48#8, 32#8, 48#8, 48#8, 55#8, 56#8, 48#8, 48#8] _ _ rfl rfl H14.out.1 (by decide)) ?_
  rintro e w15 ⟨⟨n15, v15, rfl, T15⟩, hw15⟩
  have H15 := Lib.hid (And.intro T15 (H14.out.2.trans (hw15.mono (Nat.le_trans HQ.out (Nat.le_succ q)))))
  clear T15 hw15 H14 x0 x1
  go_wp2_with fail
  rw [rounds_succ]
  go_wp2_with fail
  refine Calls.mono (string_c _ _ _ _ _ H15.out.1.at_ H15.out.1.hB) ?_
  rintro e w16 ⟨rfl, hw16⟩
  have H16 := Lib.hid (H15.out.2.trans (hw16.mono (Nat.le_trans HQ.out (Nat.le_succ q))))
  clear hw16 H15
  go_wp2_with fail
  go_ret
  exact ⟨rfl, H16.out⟩
end Go.Proofs.YtfodefgihicafaaDoor
/- What loamlaw16.known answers: true. Conditions: the table deBruijn64tab. -/
namespace Go.Proofs.YtfodefgihicafaaDoor
set_option linter.unusedVariables false
set_option linter.unusedSimpArgs false
open Go.RowKit
set_option maxHeartbeats 1000000
set_option maxRecDepth 100000
def kO0 : List (BitVec 64) := List.replicate 20 0#64
def kO1 : List (BitVec 64) := allocW kO0 0 3 (packH 1 3 false 0)
def kO2 : List (BitVec 64) := kO1.set (0 + 1 + 0) (BitVec.ofNat 64 (0 + 1))
def kO3 : List (BitVec 64) := putK kO2 (8 * (0 + 1 + 1) + 1) [120#8] 1
theorem kO0_len : kO0.length = 20 := rfl
theorem kO1_len : kO1.length = 20 := by decide +kernel
theorem kO2_len : kO2.length = 20 := by decide +kernel
theorem kO3_len : kO3.length = 20 := by decide +kernel
theorem kO1_h : goodX (kO1.getD 0 0#64) (3 - 0) = true ∧ P0 (kO1.getD 0 0#64) = 1 ∧ B0 (kO1.getD 0 0#64) = 3 := by decide +kernel
theorem kO2_h : goodX (kO2.getD 0 0#64) (3 - 0) = true ∧ P0 (kO2.getD 0 0#64) = 1 ∧ B0 (kO2.getD 0 0#64) = 3 := by decide +kernel
theorem kO3_h : goodX (kO3.getD 0 0#64) (3 - 0) = true ∧ P0 (kO3.getD 0 0#64) = 1 ∧ B0 (kO3.getD 0 0#64) = 3 := by decide +kernel
theorem kO3_p : ptV 0 3 (kO3.getD (0 + 1 + 0) 0#64) = 0 ∧ ptE 0 3 (kO3.getD (0 + 1 + 0) 0#64) = 0 := by decide +kernel
theorem kO3_b : bytesM kO3 (8 * (0 + 1 + 1) + 0) 3 = [0#8, 120#8, 0#8] := by decide +kernel
theorem kO3_w : wellE kO3 0 3 = 0 := by decide +kernel
theorem k16_new (w : World) : Calls Tryd.prog 22 #[.int .i64 20] w fun e w' => ∃ g v, e = .returned (.tuple #[.pointer (some ⟨g, 0, none⟩), .int .i64 0]) ∧ MemAt w' w.heap.size g v kO0 ∧ Below w.heap.size w w' := new_in w 20 (by decide)
theorem k16_sp (w : World) (B g : Nat) (v : Value) (h : MemAt w B g v kO0) : Calls Tryd.prog 23 #[.pointer (some ⟨g, 0, none⟩), .int .i64 0, .int .i64 20] w fun r w' => ∃ s, r = .returned (.tuple #[.pointer (some ⟨s, 0, none⟩), .int .i64 0]) ∧ SpAt w' B s g v kO0 0 0 20 ∧ Below w.heap.size w w' :=
  snew_in w B g v kO0 0 20 h (by decide) (by rw [kO0_len]; decide) (by rw [kO0_len]; decide)
theorem k16_a (w : World) (B s g : Nat) (v : Value) (h : SpAt w B s g v kO0 0 0 20) : Calls Tryd.prog 24 #[.pointer (some ⟨s, 0, none⟩), .agg #[.int .i64 1, .int .i64 3, .bool false, .int .i64 0]] w fun r w' => r = .returned (.tuple #[.int .i64 0, .int .i64 0]) ∧ SpAt w' B s g v kO1 0 3 20 ∧ Below B w w' :=
  alloc_ok w B s g v kO0 0 0 20 h (by rw [kO0_len]; decide) 1 3 0 3 (by decide) (by decide) (by decide) (by decide)
theorem k16_set (w : World) (B s g : Nat) (v : Value) (h : SpAt w B s g v kO1 0 3 20) : Calls Tryd.prog 11 #[.pointer (some ⟨s, 0, none⟩), .int .i64 0, .int .i64 0, .int .i64 0] w (SetP w B s g v kO2 0 3 20) :=
  setptr_to w B s g v kO1 0 3 20 h (by rw [kO1_len]; decide) 0 0 0 (by decide) (by decide) kO1_h.1 (by rw [kO1_h.2.1]; decide) (by decide) (by decide)
theorem k16_wr (w : World) (B s g : Nat) (v : Value) (h : SpAt w B s g v kO2 0 3 20) (r c : Nat) (hr : Rd b8 w w.heap.size (some ⟨r, 0, none⟩) [120#8]) (hn : some r ≠ v.ownBlock) : Calls Tryd.prog 15 #[.pointer (some ⟨s, 0, none⟩), .int .i64 0, .int .i64 1, .slice (some ⟨r, 0, none⟩) 1 c] w (SetP w B s g v kO3 0 3 20) := by
  have k := write_ok w B s g v kO2 0 3 20 h (by rw [kO2_len]; decide) 0 1 (some ⟨r, 0, none⟩) c [120#8] (by decide) (by decide) kO2_h.1 (by rw [kO2_h.2.2]; decide) hr (fun _ x e => by injection e with e; rw [← e]; exact hn)
  rw [kO2_h.2.1] at k
  exact k
theorem k16_p (w : World) (B s g : Nat) (v : Value) (h : SpAt w B s g v kO3 0 3 20) : Calls Tryd.prog 9 #[.pointer (some ⟨s, 0, none⟩), .int .i64 0, .int .i64 0] w (RetP (.tuple #[.int .i64 0, .int .i64 0]) w) := by
  have k := Ptr_c w B s g v kO3 0 3 20 h (by rw [kO3_len]; decide) 0 0 (by decide) (by decide) kO3_h.1 (by rw [kO3_h.2.1]; decide)
  rw [kO3_p.1, kO3_p.2] at k
  exact k
theorem k16_r (w : World) (B s g : Nat) (v : Value) (h : SpAt w B s g v kO3 0 3 20) : Calls Tryd.prog 13 #[.pointer (some ⟨s, 0, none⟩), .int .i64 0, .int .i64 0, .int .i64 3] w (MkEP b8 5 [0#8, 120#8, 0#8] 0 w) := by
  have k := read_ok w B s g v kO3 0 3 20 h (by rw [kO3_len]; decide) 0 0 3 (by decide) (by decide) kO3_h.1 (by rw [kO3_h.2.2]; decide)
  rw [kO3_h.2.1, kO3_b] at k
  exact k
theorem k16_q (w : World) (B s g : Nat) (v : Value) (h : SpAt w B s g v kO3 0 3 20) : Calls Tryd.prog 9 #[.pointer (some ⟨s, 0, none⟩), .int .i64 0, .int .i64 1] w (RetP (.tuple #[.int .i64 0, .int .i64 1]) w) :=
  Ptr_no w B s g v kO3 0 3 20 h (by rw [kO3_len]; decide) 0 1 (by decide) (by decide) kO3_h.1 (.inr ⟨by decide, by rw [kO3_h.2.1]; decide⟩)
theorem k16_w (w : World) (B s g : Nat) (v : Value) (h : SpAt w B s g v kO3 0 3 20) : Calls Tryd.prog 18 #[.pointer (some ⟨s, 0, none⟩)] w (RetP (.int .i64 0) w) := by
  have k := well_c w B s g v kO3 0 3 20 h (by rw [kO3_len]; decide)
  rw [kO3_w] at k
  exact k
theorem k16_l (w : World) (B s g : Nat) (v : Value) (h : SpAt w B s g v kO3 0 3 20) : Calls Tryd.prog 43 #[.pointer (some ⟨s, 0, none⟩), .int .i64 0] w (RetP (.tuple #[.agg #[.int .i64 1, .int .i64 3, .bool false, .int .i64 0], .int .i64 0]) w) := by
  have k := look_ok w B s g v kO3 0 3 20 h (by rw [kO3_len]; decide) 0 (by decide) (by decide) kO3_h.1
  rw [kO3_h.2.1, kO3_h.2.2] at k
  exact k
theorem k16_t (w : World) (B s g : Nat) (v : Value) (h : SpAt w B s g v kO3 0 3 20) (ht : w.cell? ⟨2, 15, none⟩ = some (.int .u8 4)) : Calls Tryd.prog 20 #[.pointer (some ⟨s, 0, none⟩), .int .i64 0] w (RetP (.string (strB [49#8, 32#8, 51#8, 58#8, 32#8, 48#8, 32#8, 48#8, 48#8, 55#8, 56#8, 48#8, 48#8])) w) :=
  text_k w s 0 ⟨fun W hW => k16_l W B s g v (h.below hW), fun W hW => k16_p W B s g v (h.below hW), fun W hW => k16_r W B s g v (h.below hW), ht⟩
theorem k16_lt {w : World} (h : w.cell? ⟨2, 15, none⟩ = some (.int .u8 4)) : 2 < w.heap.size := by
  unfold World.cell? at h
  cases hh : w.heap[2]? with
  | none => rw [hh] at h; cases h
  | some o => exact (Array.getElem?_eq_some_iff.1 hh).1
theorem rd1m (w : World) (E : TypeId) (m : Nat × Nat) : Rd b8 (w.alloc (.cells #[.int .u8 120] E m)) (w.alloc (.cells #[.int .u8 120] E m)).heap.size (some ⟨w.heap.size, 0, none⟩) [120#8] := by
  intro j hj
  have hj0 : j = 0 := by have : [120#8].length = 1 := rfl; omega
  subst hj0
  refine ⟨_, rfl, by rw [World.size_alloc]; exact Nat.lt_succ_self _, ?_⟩
  exact cell_of_row _ _ 0 _ _ _ (heap_alloc_new w (.cells #[.int .u8 120] E m))
theorem known16_c (w : World) (ht : w.cell? ⟨2, 15, none⟩ = some (.int .u8 4)) : Calls Tryd.prog 7 #[] w (RetP (.bool true) w) := by
  have HT := Lib.hid ht
  have kc := fun (x : Int) (W : World) => Joins.run_convert_bytes_const_at (P := Tryd.prog) W 30 5 #[.int .u8 x] 1 1 W.heap.size rfl Tryd.underlying30 Tryd.underlying5
  have HKC := Lib.hid kc
  clear kc ht
  go_enter Tryd.func7, Tryd.ntmps7
  go_wp2_with fail
  refine Calls.mono (k16_new w) ?_
  rintro r w1 ⟨g, v, rfl, h1, b1⟩
  have HB1 := Lib.hid b1
  clear b1
  go_wp2_with fail
  refine Calls.mono (k16_sp _ _ _ _ h1) ?_
  rintro r w2 ⟨s, rfl, h2, b2⟩
  have HB2 := Lib.hid (HB1.out.trans (b2.mono HB1.out.size))
  obtain ⟨c0, c1, c2, c3⟩ := h2.four
  have H2 := Lib.hid h2
  clear b2 h1 h2 HB1
  go_wp2_with fail
  refine Calls.mono (k16_a _ _ _ _ _ H2.out) ?_
  rintro r w3 ⟨rfl, h3, b3⟩
  have HB3 := Lib.hid (HB2.out.trans b3)
  have H3 := Lib.hid h3
  clear b3 c0 c1 c2 c3 h3 H2 HB2
  go_wp2_with fail
  refine Calls.mono (k16_set _ _ _ _ _ H3.out) ?_
  rintro r w4 ⟨rfl, h4, _, b4⟩
  have HB4 := Lib.hid (HB3.out.trans b4)
  have H4 := Lib.hid h4
  have kc := HKC.out 120 w4
  clear b4 h4 H3 HB3
  go_wp2_with fail
  clear kc
  have hg5 := Gw.alloc w4 (.cells #[.int .u8 120] 5 (1, 2))
  refine Calls.mono (k16_wr _ _ _ _ _ (H4.out.below hg5) w4.heap.size 1 (rd1m w4 5 (1, 2)) (fun e => by have := H4.out.mem.row.lt _ e.symm; omega)) ?_
  rintro r w5 ⟨rfl, h5, _, b5⟩
  have HB5 := Lib.hid ((HB4.out.trans (hg5.mono HB4.out.size)).trans b5)
  have H5 := Lib.hid h5
  clear b5 h5 hg5 H4 HB4
  go_wp2_with fail
  refine Calls.mono (k16_p _ _ _ _ _ H5.out) ?_
  rintro r w6 ⟨rfl, b6⟩
  have HB6 := Lib.hid (HB5.out.trans (b6.mono HB5.out.size))
  have H6 := Lib.hid (H5.out.below b6)
  clear b6 H5 HB5
  go_wp2_with fail
  refine Calls.mono (k16_r _ _ _ _ _ H6.out) ?_
  rintro r w7 ⟨A, c7, rfl, hc7, ho7, b7⟩
  have HB7 := Lib.hid (HB6.out.trans (b7.mono HB6.out.size))
  have H7 := Lib.hid (H6.out.below b7)
  have HR7 := Lib.hid ho7.rd
  clear b7 H6 HB6 ho7 hc7
  go_wp2_with fail
  refine Calls.mono (k16_q _ _ _ _ _ H7.out) ?_
  rintro r w8 ⟨rfl, b8_⟩
  have HB8 := Lib.hid (HB7.out.trans (b8_.mono HB7.out.size))
  have H8 := Lib.hid (H7.out.below b8_)
  have cv := str_conv [0#8, 120#8, 0#8] A c7 _ w8 (HR7.out.below b8_)
  rw [show strB [0#8, 120#8, 0#8] = ⟨#[0, 120, 0]⟩ from rfl, show [0#8, 120#8, 0#8].length = 3 from rfl] at cv
  clear b8_ H7 HB7 HR7
  go_wp2_with fail
  refine Calls.mono (k16_w _ _ _ _ _ H8.out) ?_
  rintro r w9 ⟨rfl, b9⟩
  have HB9 := Lib.hid (HB8.out.trans (b9.mono HB8.out.size))
  have H9 := Lib.hid (H8.out.below b9)
  clear b9 H8 HB8 cv
  go_wp2_with fail
  refine Calls.mono (k16_t _ _ _ _ _ H9.out (cell_later HB9.out HT.out)) ?_
  rintro r w10 ⟨rfl, b10⟩
  have HB10 := Lib.hid (HB9.out.trans (b10.mono HB9.out.size))
  have es : strB [49#8, 32#8, 51#8, 58#8, 32#8, 48#8, 32#8, 48#8, 48#8, 55#8, 56#8, 48#8, 48#8] = ⟨#[49, 32, 51, 58, 32, 48, 32, 48, 48, 55, 56, 48, 48]⟩ := rfl
  rw [es]
  clear b10 H9 HB9 es
  go_wp2_with fail
  go_ret
  exact ⟨rfl, HB10.out⟩
end Go.Proofs.YtfodefgihicafaaDoor
/- Stage 16's cards: what the listed tables give (math/bits.deBruijn64tab's place 15), and the door's own heap as a witness. Conditions: the row's own. -/
namespace Go.Proofs.YtfodefgihicafaaDoor
set_option linter.unusedVariables false
set_option linter.unusedSimpArgs false
open Go.RowKit
def laid16 : List (String × DataW Unit) := Rows.objectPtrsRow.laid
def nm64 : String := match Rows.objectPtrsRow.laid with
  | [_, (n, _), _] => n
  | _ => default
def nm10 : String := match Rows.objectPtrsRow.laid with
  | [_, _, (n, _)] => n
  | _ => default
theorem gT64 : Tryd.prog.globalNamed nm64 = some 2 := by kernel_rfl
theorem gT64t : (Tryd.prog.globals[2]?).map (·.type) = some 150 := by kernel_rfl
def tab64 : List Int := match (Rows.laid_math_bits_deBruijn64tab : DataW Unit) with
  | .agg xs => xs.map fun x => match x with
    | .lit (.int _ z) => z
    | _ => 0
  | _ => []
theorem tab64_is : (Rows.laid_math_bits_deBruijn64tab : DataW Unit) = Lib.tabData .u8 tab64 := by kernel_rfl
theorem tab64_at : 15 < tab64.length ∧ tab64.getD 15 0 = 4 := by decide +kernel
theorem of_laid {W : World} (h : laidMetH Tryd.prog laid16 W) : W.cell? ⟨2, 15, none⟩ = some (.int .u8 4) := by
  rw [MakeChecks.laidMetH_plain _ _ _ (by kernel_rfl)] at h
  have h2 : laidMet Tryd.prog [(nm64, Rows.laid_math_bits_deBruijn64tab), (nm10, Rows.laid_internal_strconv_uint64pow10)] W := laidMet.tail h
  rw [tab64_is] at h2
  have ht := Lib.tabIs_of_head gT64 gT64t Tryd.underlying150 Tryd.underlying5 (by kernel_rfl) (by kernel_rfl) h2
  have := ht.cell gT64 15 tab64_at.1
  rw [tab64_at.2] at this
  exact this
theorem door_met (os : Os) (args : Array Value) : laidMetH Tryd.prog laid16 ((World.doorLaid Tryd.prog 24 os).forCall (fun _ _ => 0) ⟨#[], args, []⟩).memory :=
  laidMetH_of_parts3 (fuel := 8) (laidMet_of_run' 8 (by kernel_rfl) (by kernel_rfl)) (by kernel_rfl) (by kernel_rfl)
end Go.Proofs.YtfodefgihicafaaDoor
/- Two objects side by side, bytes written into both: what the words say (pure). Conditions: lengths. -/
namespace Go.Proofs.YtfodefgihicafaaDoor
set_option linter.unusedVariables false
set_option linter.unusedSimpArgs false
open Go.RowKit
theorem hd_facts (P n room : Nat) (hP : P ≤ 64) (hn : n ≤ 1024) (hr : 1 + P + (n + 7) / 8 ≤ room) :
    goodX (packH P n false 0) room = true ∧ P0 (packH P n false 0) = P ∧ B0 (packH P n false 0) = n ∧ szX (packH P n false 0) = 1 + P + (n + 7) / 8 := by
  have hR : rightH (P : Int) (n : Int) false 0 = true := by
    unfold rightH
    rw [if_neg (by decide)]
    exact decide_eq_true ⟨rfl, by omega, by omega, by omega, by omega⟩
  obtain ⟨h1, h2, h3, h4⟩ := un_pack _ _ _ _ hR
  have hs : szX (packH P n false 0) = 1 + P + (n + 7) / 8 := by
    unfold szX
    rw [h1, h2, h3, h4]
    unfold sizeH
    rw [if_pos ⟨hR, rfl⟩]
    omega
  refine ⟨?_, ?_, ?_, hs⟩
  · unfold goodX
    rw [ok_pack _ _ _ _ hR, h3, hs]
    simp [hr]
  · unfold P0; rw [h1]; rfl
  · unfold B0; rw [h2]; rfl
theorem sizeH_two (P n : Nat) (hP : P ≤ 64) (hn : n ≤ 1024) : rightH (P : Int) (n : Int) false 0 = true ∧ sizeH (P : Int) (n : Int) false 0 = ((1 + P + (n + 7) / 8 : Nat) : Int) := by
  have hR : rightH (P : Int) (n : Int) false 0 = true := by
    unfold rightH
    rw [if_neg (by decide)]
    exact decide_eq_true ⟨rfl, by omega, by omega, by omega, by omega⟩
  refine ⟨hR, ?_⟩
  unfold sizeH
  rw [if_pos ⟨hR, rfl⟩]
  omega
theorem putK_far (ws : List (BitVec 64)) (a : Nat) (bs : List (BitVec 8)) (q : Nat) : ∀ k, (8 * q + 8 ≤ a ∨ a + k ≤ 8 * q) → (putK ws a bs k).getD q 0#64 = ws.getD q 0#64
  | 0, _ => rfl
  | k + 1, h => by
    show (setB _ _ _).getD q 0#64 = _
    rw [setB_far _ _ _ _ (by omega), putK_far ws a bs q k (by omega)]
theorem allocW_get (ws : List (BitVec 64)) (t m q : Nat) (x : BitVec 64) (hm : 1 ≤ m) (hl : t + m ≤ ws.length) : (allocW ws t m x).getD q 0#64 = if q = t then x else if t < q ∧ q < t + m then 0#64 else ws.getD q 0#64 := by
  unfold allocW
  rw [List.getD_eq_getElem?_getD, zeroW_get _ _ _ _ (by rw [List.length_set]; omega)]
  by_cases c : t + 1 ≤ q ∧ q < t + 1 + (m - 1)
  · rw [if_pos c, if_neg (by omega), if_pos (by omega)]; rfl
  · rw [if_neg c, List.getElem?_set]
    by_cases e : t = q
    · subst e
      rw [if_pos rfl, if_pos (by omega), if_pos rfl]; rfl
    · rw [if_neg e, if_neg (fun h => e h.symm), if_neg (by omega), ← List.getD_eq_getElem?_getD]
theorem byteAt_zero {ws : List (BitVec 64)} {i : Nat} (h : ws.getD (i / 8) 0#64 = 0#64) : byteAt ws i = 0#8 := by
  unfold byteAt
  rw [h]
  simp
/-- The words of two objects. -/
def twoW (P n k : Nat) : List (BitVec 64) := allocW (allocW (List.replicate 200 0#64) 0 (1 + P + (n + 7) / 8) (packH P n false 0)) (1 + P + (n + 7) / 8) (1 + 0 + (k + 7) / 8) (packH (0 : Nat) k false 0)
theorem twoW_len (P n k : Nat) : (twoW P n k).length = 200 := by unfold twoW; rw [allocW_len, allocW_len, List.length_replicate]
theorem rep_get (q : Nat) : (List.replicate 200 0#64).getD q 0#64 = 0#64 := by
  rw [List.getD_eq_getElem?_getD, List.getElem?_replicate]
  split <;> rfl
theorem twoW_get (P n k q : Nat) (hP : P ≤ 7) (hn : n ≤ 63) (hk : k ≤ 63) : (twoW P n k).getD q 0#64 = if q = 1 + P + (n + 7) / 8 then packH (0 : Nat) k false 0 else if q = 0 then packH P n false 0 else 0#64 := by
  unfold twoW
  rw [allocW_get _ _ _ _ _ (by omega) (by rw [allocW_len, List.length_replicate]; omega)]
  by_cases e : q = 1 + P + (n + 7) / 8
  · rw [if_pos e, if_pos e]
  · rw [if_neg e, if_neg e]
    by_cases c : 1 + P + (n + 7) / 8 < q ∧ q < 1 + P + (n + 7) / 8 + (1 + 0 + (k + 7) / 8)
    · rw [if_pos c, if_neg (by omega)]
    · rw [if_neg c, allocW_get _ _ _ _ _ (by omega) (by rw [List.length_replicate]; omega), rep_get]
      by_cases z : q = 0
      · rw [if_pos z, if_pos z]
      · rw [if_neg z, if_neg z]
        split <;> rfl
section
variable (P n k : Nat) (x y : List (BitVec 8))
def apA : List (BitVec 64) := putK (twoW P n k) (8 * (1 + P + (n + 7) / 8 + 1 + 0) + 0) y y.length
def apB : List (BitVec 64) := putK (apA P n k y) (8 * (0 + 1 + P) + (n - x.length)) x x.length
theorem apA_len : (apA P n k y).length = 200 := by unfold apA; rw [putK_len, twoW_len]
theorem apB_len : (apB P n k x y).length = 200 := by unfold apB; rw [putK_len, apA_len]
variable (hP : P ≤ 7) (hn : n ≤ 63) (hk : k ≤ 63) (hx : x.length ≤ n) (hy : y.length ≤ k)
include hP hn hk
theorem twoW_h : (twoW P n k).getD 0 0#64 = packH P n false 0 ∧ (twoW P n k).getD (1 + P + (n + 7) / 8) 0#64 = packH (0 : Nat) k false 0 := by
  constructor
  · rw [twoW_get P n k 0 hP hn hk, if_neg (by omega), if_pos rfl]
  · rw [twoW_get P n k _ hP hn hk, if_pos rfl]
theorem apA_h : (apA P n k y).getD 0 0#64 = packH P n false 0 ∧ (apA P n k y).getD (1 + P + (n + 7) / 8) 0#64 = packH (0 : Nat) k false 0 := by
  obtain ⟨h1, h2⟩ := twoW_h P n k hP hn hk
  unfold apA
  rw [putK_far _ _ _ _ _ (by omega), putK_far _ _ _ _ _ (by omega)]
  exact ⟨h1, h2⟩
include hx
theorem apB_h : (apB P n k x y).getD 0 0#64 = packH P n false 0 ∧ (apB P n k x y).getD (1 + P + (n + 7) / 8) 0#64 = packH (0 : Nat) k false 0 := by
  obtain ⟨h1, h2⟩ := apA_h P n k y hP hn hk
  unfold apB
  rw [putK_far _ _ _ _ _ (by omega), putK_far _ _ _ _ _ (by omega)]
  exact ⟨h1, h2⟩
include hy
theorem apB_ptr (q : Nat) (hq : q < P) : (apB P n k x y).getD (0 + 1 + q) 0#64 = 0#64 := by
  unfold apB apA
  rw [putK_far _ _ _ _ _ (by omega), putK_far _ _ _ _ _ (by omega), twoW_get P n k _ hP hn hk, if_neg (by omega), if_neg (by omega)]
theorem apB_byte (i : Nat) (h1 : i / 8 ≠ 0) (h2 : i / 8 ≠ 1 + P + (n + 7) / 8) : byteAt (apB P n k x y) i = if 8 * (0 + 1 + P) + (n - x.length) ≤ i ∧ i < 8 * (0 + 1 + P) + (n - x.length) + x.length then x.getD (i - (8 * (0 + 1 + P) + (n - x.length))) 0#8 else if 8 * (1 + P + (n + 7) / 8 + 1 + 0) + 0 ≤ i ∧ i < 8 * (1 + P + (n + 7) / 8 + 1 + 0) + 0 + y.length then y.getD (i - (8 * (1 + P + (n + 7) / 8 + 1 + 0) + 0)) 0#8 else 0#8 := by
  unfold apB
  rw [byteAt_putK _ _ _ _ _ (by rw [apA_len]; omega)]
  unfold apA
  rw [byteAt_putK _ _ _ _ _ (by rw [twoW_len]; omega)]
  rw [byteAt_zero (by rw [twoW_get P n k _ hP hn hk, if_neg h2, if_neg h1])]
theorem apB_x : bytesM (apB P n k x y) (8 * (0 + 1 + P) + (n - x.length)) x.length = x := by
  apply List.ext_getElem
  · simp [bytesM]
  · intro j h1 h2
    have e : (bytesM (apB P n k x y) (8 * (0 + 1 + P) + (n - x.length)) x.length)[j] = byteAt (apB P n k x y) (8 * (0 + 1 + P) + (n - x.length) + j) := by simp [bytesM]
    rw [e, apB_byte P n k x y hP hn hk hx hy _ (by omega) (by omega), if_pos (by omega), show 8 * (0 + 1 + P) + (n - x.length) + j - (8 * (0 + 1 + P) + (n - x.length)) = j from by omega]
    simp [List.getD, h2]
theorem apB_y : bytesM (apB P n k x y) (8 * (1 + P + (n + 7) / 8 + 1 + 0) + 0) y.length = y := by
  apply List.ext_getElem
  · simp [bytesM]
  · intro j h1 h2
    have e : (bytesM (apB P n k x y) (8 * (1 + P + (n + 7) / 8 + 1 + 0) + 0) y.length)[j] = byteAt (apB P n k x y) (8 * (1 + P + (n + 7) / 8 + 1 + 0) + 0 + j) := by simp [bytesM]
    rw [e, apB_byte P n k x y hP hn hk hx hy _ (by omega) (by omega), if_neg (by omega), if_pos (by omega), show 8 * (1 + P + (n + 7) / 8 + 1 + 0) + 0 + j - (8 * (1 + P + (n + 7) / 8 + 1 + 0) + 0) = j from by omega]
    simp [List.getD, h2]
theorem apB_well : wellE (apB P n k x y) 0 (1 + P + (n + 7) / 8 + (1 + 0 + (k + 7) / 8)) = 0 := by
  obtain ⟨h1, h2⟩ := apB_h P n k x y hP hn hk hx
  obtain ⟨T, hT⟩ : ∃ T, T = 1 + P + (n + 7) / 8 + (1 + 0 + (k + 7) / 8) := ⟨_, rfl⟩
  obtain ⟨U, hU⟩ : ∃ U, U = T - 2 := ⟨_, rfl⟩
  obtain ⟨a1, a2, a3, a4⟩ := hd_facts P n (T - 0) (by omega) (by omega) (by omega)
  obtain ⟨b1, b2, b3, b4⟩ := hd_facts 0 k (T - (1 + P + (n + 7) / 8)) (by omega) (by omega) (by omega)
  have ho : objF (apB P n k x y) T (T + 1) 0 = some [0, 1 + P + (n + 7) / 8] := by
    rw [show T + 1 = U + 1 + 1 + 1 from by omega]
    unfold objF
    rw [if_pos (by omega), h1, if_pos a1, a4]
    unfold objF
    rw [show 0 + (1 + P + (n + 7) / 8) = 1 + P + (n + 7) / 8 from by omega, if_pos (by omega), h2, if_pos b1, b4]
    unfold objF
    rw [if_neg (by omega)]
    rfl
  rw [← hT, well_some ho]
  refine if_pos ?_
  simp only [List.all_cons, List.all_nil, Bool.and_true, Bool.and_eq_true]
  constructor
  · unfold wellN
    rw [Bool.and_eq_true]
    constructor
    · rw [h1, a2, List.all_eq_true]
      intro q hq
      have hq := List.mem_range.1 hq
      unfold ptrN
      rw [apB_ptr P n k x y hP hn hk hx hy q hq]
      exact decide_eq_true (.inl rfl)
    · unfold padN padB
      rw [h1, a2, a3, a4, List.all_eq_true]
      intro z hz
      unfold bytesM at hz
      obtain ⟨i, hi, rfl⟩ := List.mem_map.1 hz
      have hi := List.mem_range.1 hi
      rw [apB_byte P n k x y hP hn hk hx hy _ (by omega) (by omega), if_neg (by omega), if_neg (by omega)]
      rfl
  · unfold wellN
    rw [Bool.and_eq_true]
    constructor
    · rw [h2, b2]; rfl
    · unfold padN padB
      rw [h2, b2, b3, b4, List.all_eq_true]
      intro z hz
      unfold bytesM at hz
      obtain ⟨i, hi, rfl⟩ := List.mem_map.1 hz
      have hi := List.mem_range.1 hi
      rw [apB_byte P n k x y hP hn hk hx hy _ (by omega) (by omega), if_neg (by omega), if_neg (by omega)]
      rfl
end
end Go.Proofs.YtfodefgihicafaaDoor
/- The steps of the law ObjectApart. Conditions: lengths. -/
namespace Go.Proofs.YtfodefgihicafaaDoor
set_option linter.unusedVariables false
set_option linter.unusedSimpArgs false
open Go.RowKit
section
variable (w : World) (B s g P n k S T : Nat) (v : Value) (hP : P < 8) (hn : n < 64) (hk : k < 64) (hS : S = 1 + P + (n + 7) / 8) (hT : T = S + (1 + 0 + (k + 7) / 8))
include hP hn hS hT
theorem ap_a (h : SpAt w B s g v (List.replicate 200 0#64) 0 0 200) : Calls Tryd.prog 24 #[.pointer (some ⟨s, 0, none⟩), .agg #[.int .i64 P, .int .i64 n, .bool false, .int .i64 0]] w fun r w' => r = .returned (.tuple #[.int .i64 0, .int .i64 0]) ∧ SpAt w' B s g v (allocW (List.replicate 200 0#64) 0 S (packH P n false 0)) 0 S 200 ∧ Below B w w' := by
  obtain ⟨h1, h2⟩ := sizeH_two P n (by omega) (by omega)
  have k := alloc_ok w B s g v (List.replicate 200 0#64) 0 0 200 h (by rw [List.length_replicate]; decide) P n 0 S h1 (by rw [h2, hS]) (by omega) (by omega)
  rw [Nat.zero_add] at k
  exact k
include hk
theorem ap_b (h : SpAt w B s g v (allocW (List.replicate 200 0#64) 0 S (packH P n false 0)) 0 S 200) : Calls Tryd.prog 24 #[.pointer (some ⟨s, 0, none⟩), .agg #[.int .i64 0, .int .i64 k, .bool false, .int .i64 0]] w fun r w' => r = .returned (.tuple #[.int .i64 S, .int .i64 0]) ∧ SpAt w' B s g v (twoW P n k) 0 T 200 ∧ Below B w w' := by
  obtain ⟨h1, h2⟩ := sizeH_two 0 k (by omega) (by omega)
  have q := alloc_ok w B s g v _ 0 S 200 h (by rw [allocW_len, List.length_replicate]; decide) (0 : Nat) k 0 (1 + 0 + (k + 7) / 8) h1 h2 (by omega) (by omega)
  rw [← hT] at q
  have e : twoW P n k = allocW (allocW (List.replicate 200 0#64) 0 S (packH P n false 0)) S (1 + 0 + (k + 7) / 8) (packH (0 : Nat) k false 0) := by unfold twoW; rw [hS]
  rw [e]
  exact q
theorem ap_w1 (ys : List (BitVec 8)) (Y c : Nat) (hY : Y = ys.length) (hy : Y ≤ k) (A : Option Addr) (h : SpAt w B s g v (twoW P n k) 0 T 200) (hr : Rd b8 w w.heap.size A ys) (hap : 0 < ys.length → ∀ x, A = some x → some x.block ≠ v.ownBlock) : Calls Tryd.prog 15 #[.pointer (some ⟨s, 0, none⟩), .int .i64 S, .int .i64 0, .slice A Y c] w (SetP w B s g v (apA P n k ys) 0 T 200) := by
  obtain ⟨_, h2⟩ := twoW_h P n k (by omega) (by omega) (by omega)
  rw [← hS] at h2
  obtain ⟨b1, b2, b3, b4⟩ := hd_facts 0 k (T - S) (by omega) (by omega) (by omega)
  have q := write_ok w B s g v (twoW P n k) 0 T 200 h (by rw [twoW_len]; decide) S 0 A c ys (by omega) (by omega) (by rw [h2]; exact b1) (by rw [h2, b3]; omega) hr hap
  rw [h2, b2] at q
  subst hY
  have e : apA P n k ys = putK (twoW P n k) (8 * (S + 1 + 0) + 0) ys ys.length := by unfold apA; rw [hS]
  rw [e]
  exact q
theorem ap_w2 (xs ys : List (BitVec 8)) (X D c : Nat) (hX : X = xs.length) (hx : X ≤ n) (hD : D = n - X) (A : Option Addr) (h : SpAt w B s g v (apA P n k ys) 0 T 200) (hr : Rd b8 w w.heap.size A xs) (hap : 0 < xs.length → ∀ x, A = some x → some x.block ≠ v.ownBlock) : Calls Tryd.prog 15 #[.pointer (some ⟨s, 0, none⟩), .int .i64 0, .int .i64 D, .slice A X c] w (SetP w B s g v (apB P n k xs ys) 0 T 200) := by
  obtain ⟨h1, _⟩ := apA_h P n k ys (by omega) (by omega) (by omega)
  obtain ⟨b1, b2, b3, b4⟩ := hd_facts P n (T - 0) (by omega) (by omega) (by omega)
  have q := write_ok w B s g v (apA P n k ys) 0 T 200 h (by rw [apA_len]; decide) 0 D A c xs (by omega) (by omega) (by rw [h1]; exact b1) (by rw [h1, b3]; omega) hr hap
  rw [h1, b2] at q
  subst hX
  have e : apB P n k xs ys = putK (apA P n k ys) (8 * (0 + 1 + P) + D) xs xs.length := by unfold apB; rw [hD]
  rw [e]
  exact q
theorem ap_r1 (xs ys : List (BitVec 8)) (X D : Nat) (hX : X = xs.length) (hx : X ≤ n) (hy : ys.length ≤ k) (hD : D = n - X) (h : SpAt w B s g v (apB P n k xs ys) 0 T 200) : Calls Tryd.prog 13 #[.pointer (some ⟨s, 0, none⟩), .int .i64 0, .int .i64 D, .int .i64 X] w (MkEP b8 5 xs 0 w) := by
  obtain ⟨h1, _⟩ := apB_h P n k xs ys (by omega) (by omega) (by omega) (by omega)
  obtain ⟨b1, b2, b3, b4⟩ := hd_facts P n (T - 0) (by omega) (by omega) (by omega)
  have q := read_ok w B s g v (apB P n k xs ys) 0 T 200 h (by rw [apB_len]; decide) 0 D X (by omega) (by omega) (by rw [h1]; exact b1) (by rw [h1, b3]; omega)
  rw [h1, b2, hD, hX, apB_x P n k xs ys (by omega) (by omega) (by omega) (by omega) hy] at q
  rw [hD, hX]
  exact q
theorem ap_r2 (xs ys : List (BitVec 8)) (Y : Nat) (hY : Y = ys.length) (hx : xs.length ≤ n) (hy : Y ≤ k) (h : SpAt w B s g v (apB P n k xs ys) 0 T 200) : Calls Tryd.prog 13 #[.pointer (some ⟨s, 0, none⟩), .int .i64 S, .int .i64 0, .int .i64 Y] w (MkEP b8 5 ys 0 w) := by
  obtain ⟨_, h2⟩ := apB_h P n k xs ys (by omega) (by omega) (by omega) (by omega)
  rw [← hS] at h2
  obtain ⟨b1, b2, b3, b4⟩ := hd_facts 0 k (T - S) (by omega) (by omega) (by omega)
  have q := read_ok w B s g v (apB P n k xs ys) 0 T 200 h (by rw [apB_len]; decide) S 0 Y (by omega) (by omega) (by rw [h2]; exact b1) (by rw [h2, b3]; omega)
  have e := apB_y P n k xs ys (by omega) (by omega) (by omega) (by omega) (by omega)
  rw [← hS] at e
  rw [h2, b2, hY, e] at q
  rw [hY]
  exact q
theorem ap_z (xs ys : List (BitVec 8)) (hx : xs.length ≤ n) (hy : ys.length ≤ k) (h : SpAt w B s g v (apB P n k xs ys) 0 T 200) : Calls Tryd.prog 18 #[.pointer (some ⟨s, 0, none⟩)] w (RetP (.int .i64 0) w) := by
  have q := well_c w B s g v (apB P n k xs ys) 0 T 200 h (by rw [apB_len]; decide)
  have e := apB_well P n k xs ys (by omega) (by omega) (by omega) hx hy
  rw [← hS, ← hT] at e
  rw [e] at q
  exact q
end
theorem rd_apart {w : World} {A : Option Addr} {xs : List (BitVec 8)} {v : Value} {C : Nat} (hr : Rd b8 w w.heap.size A xs) (hv : ∀ q, v.ownBlock = some q → C ≤ q) (hC : w.heap.size ≤ C) : 0 < xs.length → ∀ x, A = some x → some x.block ≠ v.ownBlock := by
  intro h0 x hx e
  obtain ⟨ad, e1, h1, _⟩ := hr 0 h0
  rw [hx] at e1
  injection e1 with e1
  subst e1
  have := hv _ e.symm
  omega
end Go.Proofs.YtfodefgihicafaaDoor
