/- Texts joined: ObG ObH CardA ObL ObM RegL RegG RegH. -/
import Derived.Test.YtfodefgihicafaaDoorOc2
import Derived.Test.YtfodefgihicafaaDoorRegV
import Derived.Test.YtfodefgihicafaaDoorRegT
import Derived.Test.YtfodefgihicafaaDoorObE
import Derived.Test.YtfodefgihicafaaDoorObF
import Derived.Test.YtfodefgihicafaaDoorSpD
import Derived.Test.YtfodefgihicafaaDoorRows
import Derived.Test.YtfodefgihicafaaDoorTie
import Derived.Test.YtfodefgihicafaaDoorCards
import Derived.Lib.LaidTab
import Derived.LaidMore
import Derived.SevenTiedAt
import Derived.Stop.LaidErr
import Derived.Test.YtfodefgihicafaaDoorSpG
import Derived.Test.YtfodefgihicafaaDoorHdK
import Derived.Laws.Rows
import Derived.Laws.Tables
/- obj.Text at an object of one pointer and three bytes (as loamlaw16.known asks). Conditions: the table deBruijn64tab. -/
namespace Go.Proofs.YtfodefgihicafaaDoor
set_option linter.unusedVariables false
set_option linter.unusedSimpArgs false
open Go.RowKit
set_option maxHeartbeats 1000000
set_option maxRecDepth 100000
theorem itoa_r (i : Nat) (hi : i < 10) (w : World) : Calls Tryd.prog 51 #[.int .i64 i] w (RetP (.string (strB [BitVec.ofNat 8 (48 + i)])) w) :=
  (itoa_c i hi w).mono fun _ _ h => ⟨h.1, h.2 ▸ Below.refl _ _⟩
theorem addS1 : strB [49#8] ++ ⟨#[32]⟩ = strB [49#8, 32#8] := rfl
theorem addS2 : strB [49#8, 32#8] ++ strB [51#8] = strB [49#8, 32#8, 51#8] := rfl
theorem addS3 : strB [49#8, 32#8, 51#8] ++ ⟨#[58]⟩ = strB [49#8, 32#8, 51#8, 58#8] := rfl
theorem addS4 : ⟨#[32]⟩ ++ strB [48#8] = strB [32#8, 48#8] := rfl
theorem tx_r (Q : Exit → Act → World → Prop) (a0 : Act) (w : World) (hb bd : Nat) (hh : hb < w.heap.size) (c0 : w.cell? ⟨hb, 0, none⟩ = some (.int .i64 1)) (c1 : w.cell? ⟨hb, 1, none⟩ = some (.int .i64 3)) (hsz : a0.tmps.size = 90) (sl5 : a0.tmps.getD 5 undef = .pointer (some ⟨hb, 0, none⟩))
    (fin : ∀ (vals : Nat → Value) (w1 : World), Below w.heap.size w w1 → (IsV (.string (strB [49#8, 32#8, 51#8, 58#8]))) (vals 8) w1 → wpList Tryd.prog #[{ dst := some 33, op := Go.Op.call { callee := Go.Callee.value (Go.Operand.func 50), args := #[Go.Operand.tmp 7, Go.Operand.tmp 32], argTypes := #[101, 9] }, type := 104, pos := "", after := #[], guard := none }] Q [{ dst := some 33, op := Go.Op.call { callee := Go.Callee.value (Go.Operand.func 50), args := #[Go.Operand.tmp 7, Go.Operand.tmp 32], argTypes := #[101, 9] }, type := 104, pos := "", after := #[], guard := none }] (putD vals [24, 25, 26, 27, 28, 29, 30, 31, 32] 0 a0) w1) :
    (Code.region 5 (regIn Tryd.f20 5) true).wp Tryd.prog Q a0 w := by
  refine region_by_tail (m := 9) (G := fun w w1 => Below w.heap.size w w1) [IsV (.pointer (some ⟨hb, 0, none⟩)),
    IsV (.int .i64 1),
    IsV (.string (strB [49#8])),
    IsV (.string (strB [49#8, 32#8])),
    IsV (.pointer (some ⟨hb, 1, none⟩)),
    IsV (.int .i64 3),
    IsV (.string (strB [51#8])),
    IsV (.string (strB [49#8, 32#8, 51#8])),
    IsV (.string (strB [49#8, 32#8, 51#8, 58#8]))]
    [24, 25, 26, 27, 28, 29, 30, 31, 32] (by kernel_rfl) (Gw.drew _) Gw.trans (by rw [hsz]; kernel_rfl) (by kernel_rfl) ?_ ?_ ?_
  · intro f hf
    simp only [List.mem_cons, List.not_mem_nil, or_false] at hf
    rcases hf with rfl | rfl | rfl | rfl | rfl | rfl | rfl | rfl | rfl <;> intro v a b h g <;> first | exact IsV.mono h
  · refine ⟨?_, ?_, ?_, ?_, ?_, ?_, ?_, ?_, ?_, trivial⟩
    · refine owes_v (Go.Op.fieldAddr 60 (Go.Operand.tmp 5) 0) 0 [] (by kernel_rfl) (by kernel_rfl) (by kernel_rfl) rfl fun vals w1 ρ hG hF hρ hcst hfun => ?_
      have e5 : ρ (.tmp 5) = .pointer (some ⟨hb, 0, none⟩) := ((hρ 5).trans (slotO [] (by kernel_rfl))).trans sl5
      clear hρ hF hcst hfun sl5 fin
      exact opv_val (by go_simp <;> rfl) ⟨gw_self _, rfl⟩
    · refine owes_v (Go.Op.load 3 (Go.Operand.tmp 24)) 3 [0] (by kernel_rfl) (by kernel_rfl) (by kernel_rfl) rfl fun vals w1 ρ hG hF hρ hcst hfun => ?_
      have e24 : ρ (.tmp 24) = .pointer (some ⟨hb, 0, none⟩) := ((hρ 24).trans (slotJ [0] (by rw [hsz]; decide) (by kernel_rfl))).trans (hF 0 (by decide))
      have k := (hG.cell (p := ⟨hb, 0, none⟩) hh).trans c0
      clear hρ hF hcst hfun sl5 fin
      exact opv_val (by go_simp <;> rfl) ⟨gw_self _, rfl⟩
    · refine owes_v (Go.Op.call { callee := Go.Callee.value (Go.Operand.func 51), args := #[Go.Operand.tmp 25], argTypes := #[3] }) 9 [1] (by kernel_rfl) (by kernel_rfl) (by kernel_rfl) rfl fun vals w1 ρ hG hF hρ hcst hfun => ?_
      have e25 : ρ (.tmp 25) = .int .i64 1 := ((hρ 25).trans (slotJ [1] (by rw [hsz]; decide) (by kernel_rfl))).trans (hF 1 (by decide))
      clear hρ hF hcst sl5 fin
      exact opv_enter (by go_simp <;> rfl) (of_ret (itoa_r 1 (by decide) _))
    · refine owes_v (Go.Op.binOp Go.BinOp.add 9 (Go.Operand.tmp 26) (Go.Operand.const (Go.Value.string { data := #[32] })) 9) 9 [2] (by kernel_rfl) (by kernel_rfl) (by kernel_rfl) rfl fun vals w1 ρ hG hF hρ hcst hfun => ?_
      have e26 : ρ (.tmp 26) = .string (strB [49#8]) := ((hρ 26).trans (slotJ [2] (by rw [hsz]; decide) (by kernel_rfl))).trans (hF 2 (by decide))
      have k := addS1; have k2 : (strB [49#8]).size = 1 := rfl
      clear hρ hF hfun sl5 fin
      exact opv_val (by go_simp <;> rfl) ⟨gw_self _, rfl⟩
    · refine owes_v (Go.Op.fieldAddr 60 (Go.Operand.tmp 5) 1) 0 [] (by kernel_rfl) (by kernel_rfl) (by kernel_rfl) rfl fun vals w1 ρ hG hF hρ hcst hfun => ?_
      have e5 : ρ (.tmp 5) = .pointer (some ⟨hb, 0, none⟩) := ((hρ 5).trans (slotO [] (by kernel_rfl))).trans sl5
      clear hρ hF hcst hfun sl5 fin
      exact opv_val (by go_simp <;> rfl) ⟨gw_self _, rfl⟩
    · refine owes_v (Go.Op.load 3 (Go.Operand.tmp 28)) 3 [4] (by kernel_rfl) (by kernel_rfl) (by kernel_rfl) rfl fun vals w1 ρ hG hF hρ hcst hfun => ?_
      have e28 : ρ (.tmp 28) = .pointer (some ⟨hb, 1, none⟩) := ((hρ 28).trans (slotJ [4] (by rw [hsz]; decide) (by kernel_rfl))).trans (hF 4 (by decide))
      have k := (hG.cell (p := ⟨hb, 1, none⟩) hh).trans c1
      clear hρ hF hcst hfun sl5 fin
      exact opv_val (by go_simp <;> rfl) ⟨gw_self _, rfl⟩
    · refine owes_v (Go.Op.call { callee := Go.Callee.value (Go.Operand.func 51), args := #[Go.Operand.tmp 29], argTypes := #[3] }) 9 [5] (by kernel_rfl) (by kernel_rfl) (by kernel_rfl) rfl fun vals w1 ρ hG hF hρ hcst hfun => ?_
      have e29 : ρ (.tmp 29) = .int .i64 3 := ((hρ 29).trans (slotJ [5] (by rw [hsz]; decide) (by kernel_rfl))).trans (hF 5 (by decide))
      clear hρ hF hcst sl5 fin
      exact opv_enter (by go_simp <;> rfl) (of_ret (itoa_r 3 (by decide) _))
    · refine owes_v (Go.Op.binOp Go.BinOp.add 9 (Go.Operand.tmp 27) (Go.Operand.tmp 30) 9) 9 [3, 6] (by kernel_rfl) (by kernel_rfl) (by kernel_rfl) rfl fun vals w1 ρ hG hF hρ hcst hfun => ?_
      have e27 : ρ (.tmp 27) = .string (strB [49#8, 32#8]) := ((hρ 27).trans (slotJ [3, 6] (by rw [hsz]; decide) (by kernel_rfl))).trans (hF 3 (by decide))
      have e30 : ρ (.tmp 30) = .string (strB [51#8]) := ((hρ 30).trans (slotJ [3, 6] (by rw [hsz]; decide) (by kernel_rfl))).trans (hF 6 (by decide))
      have k := addS2; have k2 : (strB [49#8, 32#8]).size = 2 := rfl; have k3 : (strB [51#8]).size = 1 := rfl
      clear hρ hF hcst hfun sl5 fin
      exact opv_val (by go_simp <;> rfl) ⟨gw_self _, rfl⟩
    · refine owes_v (Go.Op.binOp Go.BinOp.add 9 (Go.Operand.tmp 31) (Go.Operand.const (Go.Value.string { data := #[58] })) 9) 9 [7] (by kernel_rfl) (by kernel_rfl) (by kernel_rfl) rfl fun vals w1 ρ hG hF hρ hcst hfun => ?_
      have e31 : ρ (.tmp 31) = .string (strB [49#8, 32#8, 51#8]) := ((hρ 31).trans (slotJ [7] (by rw [hsz]; decide) (by kernel_rfl))).trans (hF 7 (by decide))
      have k := addS3; have k2 : (strB [49#8, 32#8, 51#8]).size = 3 := rfl
      clear hρ hF hfun sl5 fin
      exact opv_val (by go_simp <;> rfl) ⟨gw_self _, rfl⟩
  · intro vals w1 hG hF
    exact last_list (by kernel_rfl) (by kernel_rfl) (by kernel_rfl) (fin vals w1 hG (hF 8 (by decide +kernel)))
/-- A builder and a row of bytes beside it. -/
structure TxS (W : World) (B bd : Nat) (v : Value) (xs : List (BitVec 8)) (q : Nat) (bs : List (BitVec 8)) : Prop where
  at_ : BdAt W B bd v xs
  hB : B ≤ W.heap.size
  lt : q < W.heap.size
  rd : ∀ (j : Nat) (h : j < bs.length), W.cell? ⟨q, j, none⟩ = some (b8 bs[j])
  ne : q ≠ bd
  no : v.ownBlock ≠ some q
theorem TxS.step {w w' : World} {B bd q : Nat} {v v' : Value} {xs ys bs : List (BitVec 8)} (h : TxS w B bd v xs q bs) (h2 : BdAt w' B bd v' ys) (k : BdK w w' bd v v') : TxS w' B bd v' ys q bs := by
  refine ⟨h2, Nat.le_trans h.hB k.two.size, Nat.lt_of_lt_of_le h.lt k.two.size, fun j hj => ?_, h.ne, ?_⟩
  · rw [← h.rd j hj]
    have hb := k.two.block q h.lt h.ne (fun e => h.no e.symm)
    unfold World.cell?
    simp only
    rw [hb]
  · rcases k.row with e | ⟨m, e, hm⟩
    · rw [e]; exact h.no
    · rw [e]; intro e2; injection e2 with e2; have := h.lt; omega
theorem TxS.below {w w' : World} {B bd q : Nat} {v : Value} {xs bs : List (BitVec 8)} (h : TxS w B bd v xs q bs) (k : Below w.heap.size w w') : TxS w' B bd v xs q bs :=
  ⟨h.at_.below k, Nat.le_trans h.hB k.size, Nat.lt_of_lt_of_le h.lt k.size, fun j hj => (k.cell (p := ⟨q, j, none⟩) h.lt).trans (h.rd j hj), h.ne, h.no⟩
theorem ws_q (w : World) (B b q : Nat) (v : Value) (xs ys zs bs : List (BitVec 8)) (sv : ByteArray) (hs : sv = strB ys) (hz : zs = xs ++ ys) (h : TxS w B b v xs q bs) (hl : xs.length + ys.length ≤ 4294967296) :
    Calls Tryd.prog 50 #[.pointer (some ⟨b, 0, none⟩), .string sv] w fun e w' => (∃ n v', e = .returned (.tuple #[.int .i64 n, .nilIface]) ∧ TxS w' B b v' zs q bs) ∧ Below B w w' := by
  subst hs hz
  refine (writeString_c w B b v xs ys h.at_ hl h.hB).mono ?_
  rintro e w' ⟨v', rfl, h2, k⟩
  exact ⟨⟨_, v', rfl, h.step h2 k⟩, h.at_.kb k h.hB⟩
theorem wb_q (w : World) (B b q : Nat) (v : Value) (xs bs : List (BitVec 8)) (c : BitVec 8) (h : TxS w B b v xs q bs) (hl : xs.length + 1 ≤ 4294967296) :
    Calls Tryd.prog 52 #[.pointer (some ⟨b, 0, none⟩), .int .u8 (U8 c)] w fun e w' => (∃ v', e = .returned .nilIface ∧ TxS w' B b v' (xs ++ [c]) q bs) ∧ Below B w w' := by
  refine (writeByte_c w B b v xs c h.at_ hl h.hB).mono ?_
  rintro e w' ⟨v', rfl, h2, k⟩
  exact ⟨⟨v', rfl, h.step h2 k⟩, h.at_.kb k h.hB⟩
theorem bd_new (w : World) : BdAt (w.alloc (.cells #[.pointer none, .slice none 0 0] 101)) w.heap.size w.heap.size (.slice none 0 0) [] :=
  ⟨Nat.le_refl _, ⟨_, .inl rfl, Bk.new w _ _⟩, ⟨rfl, .inl ⟨rfl, rfl⟩⟩⟩
theorem ws_0 (w : World) (B b : Nat) (v : Value) (xs ys zs : List (BitVec 8)) (hz : zs = xs ++ ys) (h : BdAt w B b v xs) (hB : B ≤ w.heap.size) (hl : xs.length + ys.length ≤ 4294967296) :
    Calls Tryd.prog 50 #[.pointer (some ⟨b, 0, none⟩), .string (strB ys)] w fun e w' => (∃ n v', e = .returned (.tuple #[.int .i64 n, .nilIface]) ∧ BdAt w' B b v' zs) ∧ Below B w w' := by
  subst hz
  refine (writeString_c w B b v xs ys h hl hB).mono ?_
  rintro e w' ⟨v', rfl, h2, k⟩
  exact ⟨⟨_, v', rfl, h2⟩, h.kb k hB⟩
theorem fuk (w : World) (x : BitVec 8) (h : w.cell? ⟨2, 15, none⟩ = some (.int .u8 4)) (ys : List (BitVec 8)) (hy : [hexU (x.toNat / 16), hexU (x.toNat % 16)] = ys) :
    Calls Tryd.prog 53 #[.int .u64 (bits .or .u64 256 (U8 x)), .int .i64 16] w (RetP (.string (strB (49#8 :: ys))) w) := by
  subst hy
  exact fu_c w h x
/-- What is told of the object. -/
structure TxP (w : World) (s : Nat) (a : Int) : Prop where
  look : ∀ W, Below w.heap.size w W → Calls Tryd.prog 43 #[.pointer (some ⟨s, 0, none⟩), .int .i64 a] W (RetP (.tuple #[.agg #[.int .i64 1, .int .i64 3, .bool false, .int .i64 0], .int .i64 0]) W)
  ptr : ∀ W, Below w.heap.size w W → Calls Tryd.prog 9 #[.pointer (some ⟨s, 0, none⟩), .int .i64 a, .int .i64 0] W (RetP (.tuple #[.int .i64 0, .int .i64 0]) W)
  read : ∀ W, Below w.heap.size w W → Calls Tryd.prog 13 #[.pointer (some ⟨s, 0, none⟩), .int .i64 a, .int .i64 0, .int .i64 3] W (MkEP b8 5 [0#8, 120#8, 0#8] 0 W)
  tab : w.cell? ⟨2, 15, none⟩ = some (.int .u8 4)
theorem text_k (w : World) (s : Nat) (a : Int) (h : TxP w s a) :
    Calls Tryd.prog 20 #[.pointer (some ⟨s, 0, none⟩), .int .i64 a] w (RetP (.string (strB [49#8, 32#8, 51#8, 58#8, 32#8, 48#8, 32#8, 48#8, 48#8, 55#8, 56#8, 48#8, 48#8])) w) := by
  have H := Lib.hid h
  have h2w : 2 < w.heap.size := by
    have h := h.tab
    unfold World.cell? at h
    cases hh : w.heap[2]? with
    | none => rw [hh] at h; cases h
    | some o => exact (Array.getElem?_eq_some_iff.1 hh).1
  have H2 := Lib.hid h2w
  clear h h2w
  go_enter Tryd.func20, Tryd.ntmps20
  go_wp2_with fail
  refine Calls.mono (H.out.look w (Below.refl _ _)) ?_
  rintro e w1 ⟨rfl, hb1⟩
  have HB1 := Lib.hid hb1
  clear hb1
  go_wp2_with fail
  have hsz1 : (w1.alloc (.cells #[.int .i64 1, .int .i64 3, .bool false, .int .i64 0] 60)).heap.size = w1.heap.size + 1 := World.size_alloc _ _
  have hbn := bd_new (w1.alloc (.cells #[.int .i64 1, .int .i64 3, .bool false, .int .i64 0] 60))
  rw [hsz1] at hbn
  have hkb := (Bk.new w1 60 #[.int .i64 1, .int .i64 3, .bool false, .int .i64 0]).alloc (.cells #[.pointer none, .slice none 0 0] 101)
  have hbl := HB1.out.trans (((Gw.alloc w1 (.cells #[.int .i64 1, .int .i64 3, .bool false, .int .i64 0] 60)).trans ((Gw.alloc _ (.cells #[.pointer none, .slice none 0 0] 101)).mono (Gw.alloc w1 _).size)).mono HB1.out.size)
  have hs2 : w1.heap.size + 1 ≤ ((w1.alloc (.cells #[.int .i64 1, .int .i64 3, .bool false, .int .i64 0] 60)).alloc (.cells #[.pointer none, .slice none 0 0] 101)).heap.size := by
    rw [World.size_alloc, hsz1]; omega
  clear hsz1
  generalize ((w1.alloc (.cells #[.int .i64 1, .int .i64 3, .bool false, .int .i64 0] 60)).alloc (.cells #[.pointer none, .slice none 0 0] 101)) = w2 at hbn hkb hbl hs2 ⊢
  obtain ⟨q, hq⟩ : ∃ q, q = w1.heap.size := ⟨_, rfl⟩
  have hqw : w.heap.size ≤ q := by rw [hq]; exact HB1.out.size
  rw [← hq] at hbn hkb hs2 ⊢
  clear hq HB1
  have HQ := Lib.hid hqw
  have HK := Lib.hid hkb
  have HL := Lib.hid hbl
  have HN := Lib.hid hbn
  have HS := Lib.hid hs2
  clear hbn hkb hbl hs2 hqw
  refine tx_r _ _ _ q (q + 1) (by have := HS.out; omega) (HK.out.cell 0) (HK.out.cell 1) ?_ ?_ ?_
  · rfl
  · rfl
  intro vals w3 hG h32
  unfold IsV at h32
  simp only [putD, Act.put, List.setIfInBounds_toArray, List.set_cons_zero, List.set_cons_succ, h32]
  have HN3 := Lib.hid (HN.out.below hG)
  have HK3 := Lib.hid (HK.out.below hG HK.out.lt)
  have HL3 := Lib.hid (HL.out.trans (hG.mono HL.out.size))
  have HS3 := Lib.hid (Nat.le_trans HS.out hG.size)
  clear hG h32
  go_wp2_with fail
  refine Calls.mono (ws_0 _ _ _ _ [] [49#8, 32#8, 51#8, 58#8] [49#8, 32#8, 51#8, 58#8] rfl HN3.out HS3.out (by decide)) ?_
  rintro e w4 ⟨⟨n4, v4, rfl, hb4⟩, hw4⟩
  have hk4 := HK3.out.below hw4 (Nat.lt_succ_self q)
  have c0 := hk4.cell 0
  have c1 := hk4.cell 1
  have H4 := Lib.hid (And.intro hb4 (And.intro (HL3.out.trans (hw4.mono (Nat.le_trans HQ.out (Nat.le_succ q)))) (And.intro hk4 (Nat.le_trans HS3.out hw4.size))))
  clear hb4 hw4 hk4 HN3 HK3 HL3 HS3 HN HK HL HS
  go_wp2_with fail
  refine wp_loop_rounds 2 ?_
  rw [rounds_succ]
  go_wp2_with fail
  refine Calls.mono (H.out.ptr w4 H4.out.2.1) ?_
  rintro e w5 ⟨rfl, hb5⟩
  have H5 := Lib.hid (And.intro (H4.out.1.below hb5) (And.intro (H4.out.2.1.trans (hb5.mono H4.out.2.1.size)) (And.intro (H4.out.2.2.1.below hb5 H4.out.2.2.1.lt) (Nat.le_trans H4.out.2.2.2 hb5.size))))
  clear hb5 H4 c0 c1
  have a4 := addS4
  have a5 : (strB [48#8]).size = 1 := rfl
  go_wp2_with fail
  refine Calls.mono (itoa_r 0 (by decide) _) ?_
  rintro e w6 ⟨rfl, hb6⟩
  have H6 := Lib.hid (And.intro (H5.out.1.below hb6) (And.intro (H5.out.2.1.trans (hb6.mono H5.out.2.1.size)) (And.intro (H5.out.2.2.1.below hb6 H5.out.2.2.1.lt) (Nat.le_trans H5.out.2.2.2 hb6.size))))
  clear hb6 H5
  go_wp2_with fail
  refine Calls.mono (ws_0 _ _ _ _ _ [32#8, 48#8] [49#8, 32#8, 51#8, 58#8, 32#8, 48#8] rfl H6.out.1 H6.out.2.2.2 (by decide)) ?_
  rintro e w7 ⟨⟨n7, v7, rfl, hb7⟩, hw7⟩
  have hk7 := H6.out.2.2.1.below hw7 (Nat.lt_succ_self q)
  have c1 := hk7.cell 1
  have H7 := Lib.hid (And.intro hb7 (And.intro (H6.out.2.1.trans (hw7.mono (Nat.le_trans HQ.out (Nat.le_succ q)))) (Nat.le_trans H6.out.2.2.2 hw7.size)))
  clear hb7 hw7 hk7 H6
  go_wp2_with fail
  rw [rounds_succ]
  go_wp2_with fail
  refine Calls.mono (H.out.read w7 H7.out.2.1) ?_
  rintro e w8 ⟨A, c8, rfl, hc8, ho8, hb8⟩
  obtain ⟨r, rfl⟩ : ∃ r, A = some ⟨r, 0, none⟩ := by
    rcases ho8.2 with ⟨e, hn⟩ | ⟨g, _, _, e, _⟩
    · cases hn
    · injection e with e
      exact ⟨g, e⟩
  have hr8 := ho8.ge
  have T8 : TxS w8 (q + 1) (q + 1) v7 [49#8, 32#8, 51#8, 58#8, 32#8, 48#8] r [0#8, 120#8, 0#8] := by
    refine ⟨H7.out.1.below hb8, Nat.le_trans H7.out.2.2 hb8.size, hr8.2, fun j hj => ho8.cell hj, ?_, ?_⟩
    · intro e
      have := H7.out.1.lt
      omega
    · intro e
      have := (H7.out.1.own.lt r e).2
      omega
  have H8 := Lib.hid (And.intro T8 (H7.out.2.1.trans (hb8.mono H7.out.2.1.size)))
  clear T8 hb8 ho8 hr8 H7 c1 a4 a5
  have hc8' : (3 : Int) ≤ c8 := by have : 3 ≤ c8 := hc8; omega
  go_wp2_with fail
  refine Calls.mono (wb_q _ _ _ _ _ _ _ 32#8 H8.out.1 (by decide)) ?_
  rintro e w9 ⟨⟨v9, rfl, T9⟩, hw9⟩
  have H9 := Lib.hid (And.intro T9 (H8.out.2.trans (hw9.mono (Nat.le_trans HQ.out (Nat.le_succ q)))))
  have d0 : w9.cell? ⟨r, 0, none⟩ = some (.int .u8 0) := T9.rd 0 (by decide)
  clear T9 hw9 H8
  go_wp2_with fail
  refine wp_loop_rounds 4 ?_
  rw [rounds_succ]
  go_wp2_with fail
  refine Calls.mono (fuk _ 0#8 (cell_later H9.out.2 H.out.tab) [48#8, 48#8] rfl) ?_
  rintro e w10 ⟨rfl, hb10⟩
  have H10 := Lib.hid (And.intro (H9.out.1.below hb10) (H9.out.2.trans (hb10.mono H9.out.2.size)))
  clear d0 hb10 H9
  have x0 : (strB [49#8, 48#8, 48#8]).size = 3 := rfl
  have x1 : (strB [49#8, 48#8, 48#8]).extract 1 3 = strB [48#8, 48#8] := rfl
  go_wp2_with fail
  refine Calls.mono (ws_q _ _ _ _ _ _ [48#8, 48#8] [49#8, 32#8, 51#8, 58#8, 32#8, 48#8, 32#8, 48#8, 48#8] _ _ rfl rfl H10.out.1 (by decide)) ?_
  rintro e w11 ⟨⟨n11, v11, rfl, T11⟩, hw11⟩
  have H11 := Lib.hid (And.intro T11 (H10.out.2.trans (hw11.mono (Nat.le_trans HQ.out (Nat.le_succ q)))))
  have d1 : w11.cell? ⟨r, 1, none⟩ = some (.int .u8 120) := T11.rd 1 (by decide)
  clear T11 hw11 H10 x0 x1
  go_wp2_with fail
  rw [rounds_succ]
  go_wp2_with fail
  refine Calls.mono (fuk _ 120#8 (cell_later H11.out.2 H.out.tab) [55#8, 56#8] rfl) ?_
  rintro e w12 ⟨rfl, hb12⟩
  have H12 := Lib.hid (And.intro (H11.out.1.below hb12) (H11.out.2.trans (hb12.mono H11.out.2.size)))
  clear d1 hb12 H11
  have x0 : (strB [49#8, 55#8, 56#8]).size = 3 := rfl
  have x1 : (strB [49#8, 55#8, 56#8]).extract 1 3 = strB [55#8, 56#8] := rfl
  go_wp2_with fail
  refine Calls.mono (ws_q _ _ _ _ _ _ [55#8, 56#8] [49#8, 32#8, 51#8, 58#8, 32#8, 48#8, 32#8, 48#8, 48#8, 55#8, 56#8] _ _ rfl rfl H12.out.1 (by decide)) ?_
  rintro e w13 ⟨⟨n13, v13, rfl, T13⟩, hw13⟩
  have H13 := Lib.hid (And.intro T13 (H12.out.2.trans (hw13.mono (Nat.le_trans HQ.out (Nat.le_succ q)))))
  have d2 : w13.cell? ⟨r, 2, none⟩ = some (.int .u8 0) := T13.rd 2 (by decide)
  clear T13 hw13 H12 x0 x1
  go_wp2_with fail
  rw [rounds_succ]
  go_wp2_with fail
  refine Calls.mono (fuk _ 0#8 (cell_later H13.out.2 H.out.tab) [48#8, 48#8] rfl) ?_
  rintro e w14 ⟨rfl, hb14⟩
  have H14 := Lib.hid (And.intro (H13.out.1.below hb14) (H13.out.2.trans (hb14.mono H13.out.2.size)))
  clear d2 hb14 H13
  have x0 : (strB [49#8, 48#8, 48#8]).size = 3 := rfl
  have x1 : (strB [49#8, 48#8, 48#8]).extract 1 3 = strB [48#8, 48#8] := rfl
  go_wp2_with fail
  refine Calls.mono (ws_q _ _ _ _ _ _ [48#8, 48#8] [49#8, 32#8, 51#8, 58#8, 32#8, 48#8, 32#8, 48#8, 48#8, 55#8, 56#8, 48#8, 48#8] _ _ rfl rfl H14.out.1 (by decide)) ?_
  rintro e w15 ⟨⟨n15, v15, rfl, T15⟩, hw15⟩
  have H15 := Lib.hid (And.intro T15 (H14.out.2.trans (hw15.mono (Nat.le_trans HQ.out (Nat.le_succ q)))))
  clear T15 hw15 H14 x0 x1
  go_wp2_with fail
  rw [rounds_succ]
  go_wp2_with fail
  refine Calls.mono (string_c _ _ _ _ _ H15.out.1.at_ H15.out.1.hB) ?_
  rintro e w16 ⟨rfl, hw16⟩
  have H16 := Lib.hid (H15.out.2.trans (hw16.mono (Nat.le_trans HQ.out (Nat.le_succ q))))
  clear hw16 H15
  go_wp2_with fail
  go_ret
  exact ⟨rfl, H16.out⟩
end Go.Proofs.YtfodefgihicafaaDoor
/- What loamlaw16.known answers: true. Conditions: the table deBruijn64tab. -/
namespace Go.Proofs.YtfodefgihicafaaDoor
set_option linter.unusedVariables false
set_option linter.unusedSimpArgs false
open Go.RowKit
set_option maxHeartbeats 1000000
set_option maxRecDepth 100000
def kO0 : List (BitVec 64) := List.replicate 20 0#64
def kO1 : List (BitVec 64) := allocW kO0 0 3 (packH 1 3 false 0)
def kO2 : List (BitVec 64) := kO1.set (0 + 1 + 0) (BitVec.ofNat 64 (0 + 1))
def kO3 : List (BitVec 64) := putK kO2 (8 * (0 + 1 + 1) + 1) [120#8] 1
theorem kO0_len : kO0.length = 20 := rfl
theorem kO1_len : kO1.length = 20 := by decide +kernel
theorem kO2_len : kO2.length = 20 := by decide +kernel
theorem kO3_len : kO3.length = 20 := by decide +kernel
theorem kO1_h : goodX (kO1.getD 0 0#64) (3 - 0) = true ∧ P0 (kO1.getD 0 0#64) = 1 ∧ B0 (kO1.getD 0 0#64) = 3 := by decide +kernel
theorem kO2_h : goodX (kO2.getD 0 0#64) (3 - 0) = true ∧ P0 (kO2.getD 0 0#64) = 1 ∧ B0 (kO2.getD 0 0#64) = 3 := by decide +kernel
theorem kO3_h : goodX (kO3.getD 0 0#64) (3 - 0) = true ∧ P0 (kO3.getD 0 0#64) = 1 ∧ B0 (kO3.getD 0 0#64) = 3 := by decide +kernel
theorem kO3_p : ptV 0 3 (kO3.getD (0 + 1 + 0) 0#64) = 0 ∧ ptE 0 3 (kO3.getD (0 + 1 + 0) 0#64) = 0 := by decide +kernel
theorem kO3_b : bytesM kO3 (8 * (0 + 1 + 1) + 0) 3 = [0#8, 120#8, 0#8] := by decide +kernel
theorem kO3_w : wellE kO3 0 3 = 0 := by decide +kernel
theorem k16_new (w : World) : Calls Tryd.prog 22 #[.int .i64 20] w fun e w' => ∃ g v, e = .returned (.tuple #[.pointer (some ⟨g, 0, none⟩), .int .i64 0]) ∧ MemAt w' w.heap.size g v kO0 ∧ Below w.heap.size w w' := new_in w 20 (by decide)
theorem k16_sp (w : World) (B g : Nat) (v : Value) (h : MemAt w B g v kO0) : Calls Tryd.prog 23 #[.pointer (some ⟨g, 0, none⟩), .int .i64 0, .int .i64 20] w fun r w' => ∃ s, r = .returned (.tuple #[.pointer (some ⟨s, 0, none⟩), .int .i64 0]) ∧ SpAt w' B s g v kO0 0 0 20 ∧ Below w.heap.size w w' :=
  snew_in w B g v kO0 0 20 h (by decide) (by rw [kO0_len]; decide) (by rw [kO0_len]; decide)
theorem k16_a (w : World) (B s g : Nat) (v : Value) (h : SpAt w B s g v kO0 0 0 20) : Calls Tryd.prog 24 #[.pointer (some ⟨s, 0, none⟩), .agg #[.int .i64 1, .int .i64 3, .bool false, .int .i64 0]] w fun r w' => r = .returned (.tuple #[.int .i64 0, .int .i64 0]) ∧ SpAt w' B s g v kO1 0 3 20 ∧ Below B w w' :=
  alloc_ok w B s g v kO0 0 0 20 h (by rw [kO0_len]; decide) 1 3 0 3 (by decide) (by decide) (by decide) (by decide)
theorem k16_set (w : World) (B s g : Nat) (v : Value) (h : SpAt w B s g v kO1 0 3 20) : Calls Tryd.prog 11 #[.pointer (some ⟨s, 0, none⟩), .int .i64 0, .int .i64 0, .int .i64 0] w (SetP w B s g v kO2 0 3 20) :=
  setptr_to w B s g v kO1 0 3 20 h (by rw [kO1_len]; decide) 0 0 0 (by decide) (by decide) kO1_h.1 (by rw [kO1_h.2.1]; decide) (by decide) (by decide)
theorem k16_wr (w : World) (B s g : Nat) (v : Value) (h : SpAt w B s g v kO2 0 3 20) (r c : Nat) (hr : Rd b8 w w.heap.size (some ⟨r, 0, none⟩) [120#8]) (hn : some r ≠ v.ownBlock) : Calls Tryd.prog 15 #[.pointer (some ⟨s, 0, none⟩), .int .i64 0, .int .i64 1, .slice (some ⟨r, 0, none⟩) 1 c] w (SetP w B s g v kO3 0 3 20) := by
  have k := write_ok w B s g v kO2 0 3 20 h (by rw [kO2_len]; decide) 0 1 (some ⟨r, 0, none⟩) c [120#8] (by decide) (by decide) kO2_h.1 (by rw [kO2_h.2.2]; decide) hr (fun _ x e => by injection e with e; rw [← e]; exact hn)
  rw [kO2_h.2.1] at k
  exact k
theorem k16_p (w : World) (B s g : Nat) (v : Value) (h : SpAt w B s g v kO3 0 3 20) : Calls Tryd.prog 9 #[.pointer (some ⟨s, 0, none⟩), .int .i64 0, .int .i64 0] w (RetP (.tuple #[.int .i64 0, .int .i64 0]) w) := by
  have k := Ptr_c w B s g v kO3 0 3 20 h (by rw [kO3_len]; decide) 0 0 (by decide) (by decide) kO3_h.1 (by rw [kO3_h.2.1]; decide)
  rw [kO3_p.1, kO3_p.2] at k
  exact k
theorem k16_r (w : World) (B s g : Nat) (v : Value) (h : SpAt w B s g v kO3 0 3 20) : Calls Tryd.prog 13 #[.pointer (some ⟨s, 0, none⟩), .int .i64 0, .int .i64 0, .int .i64 3] w (MkEP b8 5 [0#8, 120#8, 0#8] 0 w) := by
  have k := read_ok w B s g v kO3 0 3 20 h (by rw [kO3_len]; decide) 0 0 3 (by decide) (by decide) kO3_h.1 (by rw [kO3_h.2.2]; decide)
  rw [kO3_h.2.1, kO3_b] at k
  exact k
theorem k16_q (w : World) (B s g : Nat) (v : Value) (h : SpAt w B s g v kO3 0 3 20) : Calls Tryd.prog 9 #[.pointer (some ⟨s, 0, none⟩), .int .i64 0, .int .i64 1] w (RetP (.tuple #[.int .i64 0, .int .i64 1]) w) :=
  Ptr_no w B s g v kO3 0 3 20 h (by rw [kO3_len]; decide) 0 1 (by decide) (by decide) kO3_h.1 (.inr ⟨by decide, by rw [kO3_h.2.1]; decide⟩)
theorem k16_w (w : World) (B s g : Nat) (v : Value) (h : SpAt w B s g v kO3 0 3 20) : Calls Tryd.prog 18 #[.pointer (some ⟨s, 0, none⟩)] w (RetP (.int .i64 0) w) := by
  have k := well_c w B s g v kO3 0 3 20 h (by rw [kO3_len]; decide)
  rw [kO3_w] at k
  exact k
theorem k16_l (w : World) (B s g : Nat) (v : Value) (h : SpAt w B s g v kO3 0 3 20) : Calls Tryd.prog 43 #[.pointer (some ⟨s, 0, none⟩), .int .i64 0] w (RetP (.tuple #[.agg #[.int .i64 1, .int .i64 3, .bool false, .int .i64 0], .int .i64 0]) w) := by
  have k := look_ok w B s g v kO3 0 3 20 h (by rw [kO3_len]; decide) 0 (by decide) (by decide) kO3_h.1
  rw [kO3_h.2.1, kO3_h.2.2] at k
  exact k
theorem k16_t (w : World) (B s g : Nat) (v : Value) (h : SpAt w B s g v kO3 0 3 20) (ht : w.cell? ⟨2, 15, none⟩ = some (.int .u8 4)) : Calls Tryd.prog 20 #[.pointer (some ⟨s, 0, none⟩), .int .i64 0] w (RetP (.string (strB [49#8, 32#8, 51#8, 58#8, 32#8, 48#8, 32#8, 48#8, 48#8, 55#8, 56#8, 48#8, 48#8])) w) :=
  text_k w s 0 ⟨fun W hW => k16_l W B s g v (h.below hW), fun W hW => k16_p W B s g v (h.below hW), fun W hW => k16_r W B s g v (h.below hW), ht⟩
theorem k16_lt {w : World} (h : w.cell? ⟨2, 15, none⟩ = some (.int .u8 4)) : 2 < w.heap.size := by
  unfold World.cell? at h
  cases hh : w.heap[2]? with
  | none => rw [hh] at h; cases h
  | some o => exact (Array.getElem?_eq_some_iff.1 hh).1
theorem rd1m (w : World) (E : TypeId) (m : Nat × Nat) : Rd b8 (w.alloc (.cells #[.int .u8 120] E m)) (w.alloc (.cells #[.int .u8 120] E m)).heap.size (some ⟨w.heap.size, 0, none⟩) [120#8] := by
  intro j hj
  have hj0 : j = 0 := by have : [120#8].length = 1 := rfl; omega
  subst hj0
  refine ⟨_, rfl, by rw [World.size_alloc]; exact Nat.lt_succ_self _, ?_⟩
  exact cell_of_row _ _ 0 _ _ _ (heap_alloc_new w (.cells #[.int .u8 120] E m))
theorem known16_c (w : World) (ht : w.cell? ⟨2, 15, none⟩ = some (.int .u8 4)) : Calls Tryd.prog 7 #[] w (RetP (.bool true) w) := by
  have HT := Lib.hid ht
  have kc := fun (x : Int) (W : World) => Joins.run_convert_bytes_const_at (P := Tryd.prog) W 30 5 #[.int .u8 x] 1 1 W.heap.size rfl Tryd.underlying30 Tryd.underlying5
  have HKC := Lib.hid kc
  clear kc ht
  go_enter Tryd.func7, Tryd.ntmps7
  go_wp2_with fail
  refine Calls.mono (k16_new w) ?_
  rintro r w1 ⟨g, v, rfl, h1, b1⟩
  have HB1 := Lib.hid b1
  clear b1
  go_wp2_with fail
  refine Calls.mono (k16_sp _ _ _ _ h1) ?_
  rintro r w2 ⟨s, rfl, h2, b2⟩
  have HB2 := Lib.hid (HB1.out.trans (b2.mono HB1.out.size))
  obtain ⟨c0, c1, c2, c3⟩ := h2.four
  have H2 := Lib.hid h2
  clear b2 h1 h2 HB1
  go_wp2_with fail
  refine Calls.mono (k16_a _ _ _ _ _ H2.out) ?_
  rintro r w3 ⟨rfl, h3, b3⟩
  have HB3 := Lib.hid (HB2.out.trans b3)
  have H3 := Lib.hid h3
  clear b3 c0 c1 c2 c3 h3 H2 HB2
  go_wp2_with fail
  refine Calls.mono (k16_set _ _ _ _ _ H3.out) ?_
  rintro r w4 ⟨rfl, h4, _, b4⟩
  have HB4 := Lib.hid (HB3.out.trans b4)
  have H4 := Lib.hid h4
  have kc := HKC.out 120 w4
  clear b4 h4 H3 HB3
  go_wp2_with fail
  clear kc
  have hg5 := Gw.alloc w4 (.cells #[.int .u8 120] 5 (1, 2))
  refine Calls.mono (k16_wr _ _ _ _ _ (H4.out.below hg5) w4.heap.size 1 (rd1m w4 5 (1, 2)) (fun e => by have := H4.out.mem.row.lt _ e.symm; omega)) ?_
  rintro r w5 ⟨rfl, h5, _, b5⟩
  have HB5 := Lib.hid ((HB4.out.trans (hg5.mono HB4.out.size)).trans b5)
  have H5 := Lib.hid h5
  clear b5 h5 hg5 H4 HB4
  go_wp2_with fail
  refine Calls.mono (k16_p _ _ _ _ _ H5.out) ?_
  rintro r w6 ⟨rfl, b6⟩
  have HB6 := Lib.hid (HB5.out.trans (b6.mono HB5.out.size))
  have H6 := Lib.hid (H5.out.below b6)
  clear b6 H5 HB5
  go_wp2_with fail
  refine Calls.mono (k16_r _ _ _ _ _ H6.out) ?_
  rintro r w7 ⟨A, c7, rfl, hc7, ho7, b7⟩
  have HB7 := Lib.hid (HB6.out.trans (b7.mono HB6.out.size))
  have H7 := Lib.hid (H6.out.below b7)
  have HR7 := Lib.hid ho7.rd
  clear b7 H6 HB6 ho7 hc7
  go_wp2_with fail
  refine Calls.mono (k16_q _ _ _ _ _ H7.out) ?_
  rintro r w8 ⟨rfl, b8_⟩
  have HB8 := Lib.hid (HB7.out.trans (b8_.mono HB7.out.size))
  have H8 := Lib.hid (H7.out.below b8_)
  have cv := str_conv [0#8, 120#8, 0#8] A c7 _ w8 (HR7.out.below b8_)
  rw [show strB [0#8, 120#8, 0#8] = ⟨#[0, 120, 0]⟩ from rfl, show [0#8, 120#8, 0#8].length = 3 from rfl] at cv
  clear b8_ H7 HB7 HR7
  go_wp2_with fail
  refine Calls.mono (k16_w _ _ _ _ _ H8.out) ?_
  rintro r w9 ⟨rfl, b9⟩
  have HB9 := Lib.hid (HB8.out.trans (b9.mono HB8.out.size))
  have H9 := Lib.hid (H8.out.below b9)
  clear b9 H8 HB8 cv
  go_wp2_with fail
  refine Calls.mono (k16_t _ _ _ _ _ H9.out (cell_later HB9.out HT.out)) ?_
  rintro r w10 ⟨rfl, b10⟩
  have HB10 := Lib.hid (HB9.out.trans (b10.mono HB9.out.size))
  have es : strB [49#8, 32#8, 51#8, 58#8, 32#8, 48#8, 32#8, 48#8, 48#8, 55#8, 56#8, 48#8, 48#8] = ⟨#[49, 32, 51, 58, 32, 48, 32, 48, 48, 55, 56, 48, 48]⟩ := rfl
  rw [es]
  clear b10 H9 HB9 es
  go_wp2_with fail
  go_ret
  exact ⟨rfl, HB10.out⟩
end Go.Proofs.YtfodefgihicafaaDoor
/- Stage 16's cards: what the listed tables give (math/bits.deBruijn64tab's place 15), and the door's own heap as a witness. Conditions: the row's own. -/
namespace Go.Proofs.YtfodefgihicafaaDoor
set_option linter.unusedVariables false
set_option linter.unusedSimpArgs false
open Go.RowKit
def laid16 : List (String × DataW Unit) := Rows.objectPtrsRow.laid
def nm64 : String := match Rows.objectPtrsRow.laid with
  | [_, (n, _), _] => n
  | _ => default
def nm10 : String := match Rows.objectPtrsRow.laid with
  | [_, _, (n, _)] => n
  | _ => default
theorem gT64 : Tryd.prog.globalNamed nm64 = some 2 := by kernel_rfl
theorem gT64t : (Tryd.prog.globals[2]?).map (·.type) = some 150 := by kernel_rfl
def tab64 : List Int := match (Rows.laid_math_bits_deBruijn64tab : DataW Unit) with
  | .agg xs => xs.map fun x => match x with
    | .lit (.int _ z) => z
    | _ => 0
  | _ => []
theorem tab64_is : (Rows.laid_math_bits_deBruijn64tab : DataW Unit) = Lib.tabData .u8 tab64 := by kernel_rfl
theorem tab64_at : 15 < tab64.length ∧ tab64.getD 15 0 = 4 := by decide +kernel
theorem of_laid {W : World} (h : laidMetH Tryd.prog laid16 W) : W.cell? ⟨2, 15, none⟩ = some (.int .u8 4) := by
  rw [MakeChecks.laidMetH_plain _ _ _ (by kernel_rfl)] at h
  have h2 : laidMet Tryd.prog [(nm64, Rows.laid_math_bits_deBruijn64tab), (nm10, Rows.laid_internal_strconv_uint64pow10)] W := laidMet.tail h
  rw [tab64_is] at h2
  have ht := Lib.tabIs_of_head gT64 gT64t Tryd.underlying150 Tryd.underlying5 (by kernel_rfl) (by kernel_rfl) h2
  have := ht.cell gT64 15 tab64_at.1
  rw [tab64_at.2] at this
  exact this
theorem door_met (os : Os) (args : Array Value) : laidMetH Tryd.prog laid16 ((World.doorLaid Tryd.prog 24 os).forCall (fun _ _ => 0) ⟨#[], args, []⟩).memory :=
  laidMetH_of_parts3 (fuel := 8) (laidMet_of_run' 8 (by kernel_rfl) (by kernel_rfl)) (by kernel_rfl) (by kernel_rfl)
end Go.Proofs.YtfodefgihicafaaDoor
/- The reference's Well: among, Points. Conditions: lengths. (BEGUN: what builds stands here.) -/
namespace Go.Proofs.YtfodefgihicafaaDoor
set_option linter.unusedVariables false
set_option linter.unusedSimpArgs false
open Go.RowKit
set_option maxHeartbeats 1000000
set_option maxRecDepth 100000
theorem among_c (w : World) (A : Option Addr) (c : Nat) (l : List Nat) (hr : Rd iN w w.heap.size A l) (hl : l.length ≤ 100000) (x : Int) :
    Calls Tryd.prog 72 #[.slice A l.length c, .int .i64 x] w (RetP (.bool (decide (∃ y ∈ l, (y : Int) = x))) w) := by
  obtain ⟨R, hR⟩ : ∃ R, R = decide (∃ y ∈ l, (y : Int) = x) := ⟨_, rfl⟩
  rw [← hR]
  obtain ⟨N, hN⟩ : ∃ N, N = l.length := ⟨_, rfl⟩
  rw [← hN]
  have qN : (N : Int) ≤ 100000 := by omega
  have HR := Lib.hid hR
  have HN := Lib.hid hN
  have HD := Lib.hid hr
  clear hR hN hr hl
  go_enter Tryd.func72, Tryd.ntmps72
  go_wp2_with fail
  go_loopw [5] (fun i W => ∃ k : Nat, i = .int .i64 k ∧ k ≤ N ∧ Hid (∀ y ∈ l.take k, (y : Int) ≠ x) ∧ Below w.heap.size w W) (fun i _ => N - (Go.RowKit.intOf i).toNat)
  case atStart => exact ⟨0, rfl, Nat.zero_le _, Lib.hid (by simp), Below.refl _ _⟩
  case round =>
    obtain ⟨k, rfl, hk, hS, hB⟩ := hrel
    by_cases hlt : k < N
    · have q1 : (0 : Int) ≤ (k : Int) := by omega
      have q2 : (k : Int) < (N : Int) := by omega
      have hkl : k < l.length := by rw [← HN.out]; exact hlt
      obtain ⟨yn, hyn⟩ : ∃ yn : Nat, l[k]? = some yn := ⟨_, List.getElem?_eq_getElem hkl⟩
      have hye : l[k] = yn := (List.getElem?_eq_some_iff.1 hyn).2
      obtain ⟨y, hy⟩ : ∃ y : Int, y = (yn : Int) := ⟨_, rfl⟩
      obtain ⟨ad, rfl, hcell⟩ : ∃ ad, A = some ad ∧ wr.cell? (ad.add k) = some (.int .i64 y) := by
        obtain ⟨ad, e, _, hc⟩ := (HD.out.below hB) k hkl
        exact ⟨ad, e, by rw [hy, ← hye]; exact hc⟩
      have HY := Lib.hid (show y = (yn : Int) ∧ yn ∈ l ∧ l.take (k + 1) = l.take k ++ [yn] from ⟨hy, List.mem_of_getElem? hyn, by rw [List.take_succ_eq_append_getElem hkl, hye]⟩)
      have HB := Lib.hid hB
      clear hy hye hyn hkl hB
      by_cases he : y = x
      · have hRt := Lib.hid (show R = true from by
          rw [HR.out]
          exact decide_eq_true ⟨yn, HY.out.2.1, by rw [← HY.out.1]; exact he⟩)
        go_wp2_with fail
        go_ret
        exact ⟨by rw [hRt.out]; rfl, HB.out⟩
      · have HX := Lib.hid (show ∀ z ∈ l.take (k + 1), (z : Int) ≠ x from by
          intro z hz
          rw [HY.out.2.2] at hz
          rcases List.mem_append.1 hz with hz | hz
          · exact hS.out z hz
          · rw [List.mem_singleton.1 hz, ← HY.out.1]; exact he)
        clear hS
        go_wp2_with fail
        go_roundw
        case rel => first | exact ⟨k + 1, by go_num, by omega, HX, HB.out⟩ | ((repeat apply Exists.intro); refine ⟨?_, rfl⟩; exact ⟨k + 1, by go_num, by omega, HX, HB.out⟩)
        case measure => simp [Go.RowKit.intOf]; omega
    · have hNk : N = k := by omega
      have hRf := Lib.hid (show R = false from by
        rw [HR.out]
        refine decide_eq_false ?_
        rintro ⟨y, hy, e⟩
        have := hS.out y (by rw [← hNk, HN.out, List.take_length]; exact hy)
        exact this e)
      have HB := Lib.hid hB
      clear hS hB hlt hk
      subst hNk
      go_wp2_with fail
      go_ret
      exact ⟨by rw [hRf.out]; rfl, HB.out⟩
theorem points_c (w : World) (A : Option Addr) (c : Nat) (l : List Nat) (hr : Rd iN w w.heap.size A l) (hl : l.length ≤ 100000) (hb : ∀ y ∈ l, y < 1073741824) (x : BitVec 64) :
    Calls Tryd.prog 47 #[.slice A l.length c, .int .u64 (U64 x)] w (RetP (.bool (decide (x.toNat = 0 ∨ (1 ≤ x.toNat ∧ x.toNat - 1 ∈ l)))) w) := by
  obtain ⟨R, hR⟩ : ∃ R, R = decide (x.toNat = 0 ∨ (1 ≤ x.toNat ∧ x.toNat - 1 ∈ l)) := ⟨_, rfl⟩
  rw [← hR]
  obtain ⟨m, hm⟩ : ∃ m : Nat, m = x.toNat := ⟨_, rfl⟩
  have hx : U64 x = (m : Int) := by rw [hm]; rfl
  rw [hx]
  rw [← hm] at hR
  have HA := Lib.hid (fun z => among_c w A c l hr hl z)
  have m1 : (m : Int) < 18446744073709551616 := by have := x.isLt; omega
  have m0 : (0 : Int) ≤ (m : Int) := by omega
  obtain ⟨N, hN⟩ : ∃ N, N = l.length := ⟨_, rfl⟩
  rw [← hN] at HA ⊢
  have HR := Lib.hid (And.intro hR hb)
  clear hr hl hb hx hm hR hN
  by_cases c0 : m = 0
  · subst c0
    have hT := Lib.hid (show R = true from by rw [HR.out.1]; exact decide_eq_true (.inl rfl))
    go_enter Tryd.func47, Tryd.ntmps47
    go_wp2_with fail
    go_ret
    exact ⟨by rw [hT.out]; rfl, Below.refl _ _⟩
  obtain ⟨d, hd⟩ : ∃ d : Nat, m = d + 1 := ⟨m - 1, by omega⟩
  obtain ⟨z, hz⟩ : ∃ z : Int, z = (m : Int) := ⟨_, rfl⟩
  rw [← hz]
  have z1 : (1 : Int) ≤ z := by omega
  have z2 : z < 18446744073709551616 := by omega
  have e1 : z - 1 = (d : Int) := by omega
  have n0 : z ≠ 0 := by omega
  have d1 : (d : Int) < 18446744073709551616 := by omega
  subst hd
  clear m1 m0 c0 hz
  by_cases c1 : (d : Int) < 1073741824
  · have hV := Lib.hid (show R = decide (∃ y ∈ l, (y : Int) = (d : Int)) from by
      rw [HR.out.1]
      refine decide_eq_decide.2 ⟨fun h => ?_, fun h => ?_⟩
      · rcases h with h | ⟨_, h⟩
        · omega
        · exact ⟨d, by simpa using h, rfl⟩
      · obtain ⟨y, hy, e⟩ := h
        right
        have : y = d := by omega
        subst this
        exact ⟨by omega, by simpa using hy⟩)
    have HC := Lib.hid (HA.out (d : Int))
    rw [← hV.out] at HC
    clear HA hV
    go_enter Tryd.func47, Tryd.ntmps47
    go_wp2_with fail
    refine Calls.mono HC.out ?_
    rintro r w1 ⟨rfl, b1⟩
    have HB := Lib.hid b1
    clear b1
    go_wp2_with fail
    go_ret
    exact ⟨by simp [n0], HB.out⟩
  · have hF := Lib.hid (show R = false from by
      rw [HR.out.1]
      refine decide_eq_false ?_
      rintro (h | ⟨_, h⟩)
      · omega
      · have := HR.out.2 _ h
        omega)
    clear HA
    go_enter Tryd.func47, Tryd.ntmps47
    go_wp2_with fail
    go_ret
    exact ⟨by rw [hF.out]; simp [n0], Below.refl _ _⟩
theorem byte_val (ws : List (BitVec 64)) (i r : Nat) (hr : i % 8 = r) : IntKind.u8.wrap (U64 (ws.getD (i / 8) 0#64) / ((2 ^ (8 * r) : Nat) : Int)) = U8 (byteAt ws i) := by
  unfold byteAt
  rw [hr]
  have e : U8 (((ws.getD (i / 8) 0#64) >>> (8 * r)).setWidth 8) = (((ws.getD (i / 8) 0#64).toNat / 2 ^ (8 * r) % 256 : Nat) : Int) := by
    unfold U8
    rw [BitVec.toNat_setWidth, BitVec.toNat_ushiftRight, Nat.shiftRight_eq_div_pow]
  rw [e, IntKind.wrap_u8]
  unfold U64
  rw [← Int.natCast_ediv]
  rfl
theorem rbyte_c (w : World) (A : Option Addr) (c : Nat) (ws : List (BitVec 64)) (hr : Rd u64v w w.heap.size A ws) (hl : ws.length ≤ 100000) (i : Nat) (hi : i < 8 * ws.length) :
    Calls Tryd.prog 66 #[.slice A ws.length c, .int .i64 i] w (RetP (.int .u8 (U8 (byteAt ws i))) w) := by
  obtain ⟨N, hN⟩ : ∃ N, N = ws.length := ⟨_, rfl⟩
  rw [← hN]
  have hq : i / 8 < ws.length := by omega
  obtain ⟨x, hx⟩ : ∃ x, x = U64 (ws.getD (i / 8) 0#64) := ⟨_, rfl⟩
  have hxx : u64v ws[i / 8] = .int .u64 x := by
    rw [hx]
    simp [List.getD, hq, u64v]
  obtain ⟨ad, rfl, hcell⟩ : ∃ ad, A = some ad ∧ w.cell? (ad.add (i / 8)) = some (.int .u64 x) := by
    obtain ⟨ad, e, _, hc⟩ := hr (i / 8) hq
    exact ⟨ad, e, by rw [← hxx]; exact hc⟩
  obtain ⟨Q, hQ⟩ : ∃ Q : Nat, Q = i / 8 := ⟨_, rfl⟩
  obtain ⟨I, hI⟩ : ∃ I : Int, I = (i : Int) := ⟨_, rfl⟩
  have e1 : I.tdiv 8 = (Q : Int) := by rw [hI, hQ]; rfl
  have e2 : I / 8 = (Q : Int) := by rw [hI, hQ]; rfl
  have e0 : (0 : Int) ≤ I := by omega
  have e5 : I ≤ 800000 := by omega
  have e3 : (0 : Int) ≤ (Q : Int) := by omega
  have e4 : (Q : Int) < (N : Int) := by omega
  have e6 : (N : Int) ≤ 100000 := by omega
  obtain ⟨r, hr8⟩ : ∃ r, i % 8 = r := ⟨_, rfl⟩
  have HV := Lib.hid (byte_val ws i r hr8)
  rw [← hx] at HV
  obtain ⟨y, hy⟩ : ∃ y, y = U8 (byteAt ws i) := ⟨_, rfl⟩
  rw [← hy] at HV ⊢
  have hm : I.tmod 8 = (r : Int) := by rw [hI, ← hr8]; rfl
  have hr9 : r < 8 := by omega
  rw [← hQ] at hcell
  rw [← hI]
  clear hr hl hi hN hq hx hxx hQ hI hr8 hy
  obtain rfl | rfl | rfl | rfl | rfl | rfl | rfl | rfl : r = 0 ∨ r = 1 ∨ r = 2 ∨ r = 3 ∨ r = 4 ∨ r = 5 ∨ r = 6 ∨ r = 7 := by omega
  · have h := HV.out
    rw [IntKind.wrap_u8, show (((2 ^ (8 * 0) : Nat) : Nat) : Int) = 1 from rfl, Int.ediv_one] at h
    have HE := Lib.hid h
    clear h HV
    go_enter Tryd.func66, Tryd.ntmps66
    go_wp2_with fail
    go_ret
    exact ⟨congrArg (fun z => Ending.returned (Value.int .u8 z)) HE.out, Below.refl _ _⟩
  all_goals
    have h := HV.out
    rw [IntKind.wrap_u8] at h
    have HE := Lib.hid h
    clear h HV
    go_enter Tryd.func66, Tryd.ntmps66
    go_wp2_with fail
    go_ret
    exact ⟨congrArg (fun z => Ending.returned (Value.int .u8 z)) HE.out, Below.refl _ _⟩
theorem pad_step (ws : List (BitVec 64)) (J k : Nat) (h : (bytesM ws J k).all (· == 0#8) = true) (hz : byteAt ws (J + k) = 0#8) : (bytesM ws J (k + 1)).all (· == 0#8) = true := by
  unfold bytesM at h ⊢
  rw [List.range_succ, List.map_append, List.all_append, h]
  simp [hz]
theorem pad_no (ws : List (BitVec 64)) (J k K : Nat) (hk : k < K) (hz : byteAt ws (J + k) ≠ 0#8) : padB ws J K = false := by
  unfold padB
  cases h : (bytesM ws J K).all (· == 0#8) with
  | false => rfl
  | true =>
    have := List.all_eq_true.1 h (byteAt ws (J + k)) (by unfold bytesM; exact List.mem_map.2 ⟨k, List.mem_range.2 hk, rfl⟩)
    exact absurd (by simpa using this) hz
theorem rpad_c (w : World) (R : Nat) (A : Option Addr) (c : Nat) (ws : List (BitVec 64)) (b t e : Nat) (p : RefAt w R A c ws b t e) (hl : ws.length ≤ 100000) (a P n S : Nat) (hP : P ≤ 64) (hn : n ≤ 1024) (hS : sizeH (P : Int) (n : Int) false 0 = (S : Int)) (hS2 : S ≤ 1000) (ha : a + S ≤ ws.length) (hJ : 8 * (a + 1 + P) + n ≤ 8 * (a + S)) :
    Calls Tryd.prog 48 #[.pointer (some ⟨R, 0, none⟩), .int .i64 a, .agg #[.int .i64 P, .int .i64 n, .bool false, .int .i64 0]] w (RetP (.bool (!padB ws (8 * (a + 1 + P) + n) (8 * (a + S) - (8 * (a + 1 + P) + n)))) w) := by
  obtain ⟨J, hJe⟩ : ∃ J, J = 8 * (a + 1 + P) + n := ⟨_, rfl⟩
  obtain ⟨K, hKe⟩ : ∃ K, K = 8 * (a + S) - J := ⟨_, rfl⟩
  obtain ⟨Z, hZ⟩ : ∃ Z, Z = padB ws J K := ⟨_, rfl⟩
  rw [← hJe, ← hKe, ← hZ]
  obtain ⟨T, hT⟩ : ∃ T, T = 8 * (a + S) := ⟨_, rfl⟩
  have eJ : 8 * ((a : Int) + 1 + (P : Int)) + (n : Int) = (J : Int) := by omega
  have eT : 8 * ((a : Int) + (S : Int)) = (T : Int) := by omega
  have f1 : (a : Int) ≤ 100000 := by omega
  have f2 : (P : Int) ≤ 64 := by omega
  have f3 : (n : Int) ≤ 1024 := by omega
  have f4 : (S : Int) ≤ 1000 := by omega
  have f5 : (J : Int) ≤ 1000000 := by omega
  have f6 : (T : Int) ≤ 1000000 := by omega
  have HF := Lib.hid (show J ≤ T ∧ K = T - J ∧ Z = padB ws J K ∧ T ≤ 8 * ws.length from ⟨by omega, by omega, hZ, by omega⟩)
  have HSz := Lib.hid (fun W => rsize_c (P : Int) (n : Int) false 0 W)
  rw [hS] at HSz
  have HBy := Lib.hid (fun W (hr : Rd u64v W W.heap.size A ws) (i : Nat) (hi : i < 8 * ws.length) => rbyte_c W A c ws hr hl i hi)
  obtain ⟨L, hL⟩ : ∃ L, L = ws.length := ⟨_, rfl⟩
  have hb0 := Gw.alloc w (.cells #[.int .i64 P, .int .i64 n, .bool false, .int .i64 0] 74)
  have hp0 := (p.below hb0)
  have hk0 := (Bk.new w 74 #[.int .i64 P, .int .i64 n, .bool false, .int .i64 0])
  rw [← hL] at HBy
  clear p hl hP hn hS hS2 ha hJ hJe hKe hZ hT
  go_enter Tryd.func48, Tryd.ntmps48
  go_wp2_with fail
  obtain ⟨W0, hW0⟩ : ∃ W0, W0 = (w.alloc (.cells #[.int .i64 P, .int .i64 n, .bool false, .int .i64 0] 74)) := ⟨_, rfl⟩
  obtain ⟨h, hh⟩ : ∃ h, h = w.heap.size := ⟨_, rfl⟩
  have H0 := Lib.hid (show RefAt W0 R A c ws b t e ∧ Bk W0 h 74 #[.int .i64 P, .int .i64 n, .bool false, .int .i64 0] ∧ Below w.heap.size w W0 ∧ L = ws.length from by rw [hW0, hh]; exact ⟨hp0, hk0, hb0, hL⟩)
  rw [← hW0, ← hh]
  clear hW0 hh hb0 hp0 hk0 hL
  go_loopw [8] (fun i W => ∃ j : Nat, i = .int .i64 j ∧ J ≤ j ∧ j ≤ T ∧ Hid ((bytesM ws J (j - J)).all (· == 0#8) = true) ∧ Hid (Below W0.heap.size W0 W)) (fun i _ => T - (Go.RowKit.intOf i).toNat)
  case atStart => exact ⟨J, rfl, Nat.le_refl _, HF.out.1, Lib.hid (by rw [Nat.sub_self]; rfl), Lib.hid (Below.refl _ _)⟩
  case round =>
    obtain ⟨j, rfl, hj1, hj2, hS, hB⟩ := hrel
    obtain ⟨c0, c1, c2, c3⟩ := (H0.out.2.1.below hB.out H0.out.2.1.lt).four
    have q0 : (0 : Int) ≤ (j : Int) := by omega
    go_wp2_with fail
    refine Calls.mono (HSz.out _) ?_
    rintro r w1 ⟨rfl, b1⟩
    have H1 := Lib.hid (show Below W0.heap.size W0 w1 from hB.out.trans (b1.mono hB.out.size))
    clear b1 c0 c1 c2 c3 hB
    by_cases hlt : j < T
    · have q1 : (j : Int) < (T : Int) := by omega
      obtain ⟨y, hy⟩ : ∃ y, y = byteAt ws j := ⟨_, rfl⟩
      have hp1 := H0.out.1.below H1.out
      have HBj := Lib.hid (HBy.out w1 hp1.rd j (by have h1 := HF.out.2.2.2; have h2 := H0.out.2.2.2; omega))
      rw [← hy] at HBj
      obtain ⟨d0, _⟩ := hp1.four
      rw [← H0.out.2.2.2] at d0
      clear hp1
      by_cases hz : y = 0#8
      · subst hz
        have HX := Lib.hid (show (bytesM ws J (j + 1 - J)).all (· == 0#8) = true from by
          rw [show j + 1 - J = j - J + 1 from by omega]
          exact pad_step ws J (j - J) hS.out (by rw [show J + (j - J) = j from by omega]; exact hy.symm))
        go_wp2_with fail
        refine Calls.mono HBj.out ?_
        rintro r w2 ⟨rfl, b2⟩
        have HB2 := Lib.hid (show Below W0.heap.size W0 w2 from H1.out.trans (b2.mono H1.out.size))
        have u0 : U8 0#8 = 0 := rfl
        rw [u0]
        clear b2 d0 hS
        go_wp2_with fail
        go_roundw
        case rel => first | exact ⟨j + 1, by go_num, by omega, by omega, HX, HB2⟩ | ((repeat apply Exists.intro); refine ⟨?_, rfl⟩; exact ⟨j + 1, by go_num, by omega, by omega, HX, HB2⟩)
        case measure => simp [Go.RowKit.intOf]; omega
      · have hZf := Lib.hid (show Z = false from by
          rw [HF.out.2.2.1]
          exact pad_no ws J (j - J) K (by have := HF.out.2.1; omega) (by rw [show J + (j - J) = j from by omega, ← hy]; exact hz))
        have u1 : U8 y ≠ 0 := by
          intro e
          refine hz (BitVec.eq_of_toNat_eq ?_)
          unfold U8 at e
          simpa using e
        obtain ⟨z, hzz⟩ : ∃ z, z = U8 y := ⟨_, rfl⟩
        rw [← hzz] at HBj u1
        clear hS hy hz hzz
        go_wp2_with fail
        refine Calls.mono HBj.out ?_
        rintro r w2 ⟨rfl, b2⟩
        have HB2 := Lib.hid (H0.out.2.2.1.trans ((H1.out.trans (b2.mono H1.out.size)).mono H0.out.2.2.1.size))
        clear b2 d0
        go_wp2_with fail
        go_ret
        exact ⟨by rw [hZf.out]; rfl, HB2.out⟩
    · have hTj : T = j := by omega
      have hZt := Lib.hid (show Z = true from by
        rw [HF.out.2.2.1, HF.out.2.1, hTj]
        exact hS.out)
      have HB2 := Lib.hid (H0.out.2.2.1.trans (H1.out.mono H0.out.2.2.1.size))
      clear hS hlt hj2
      subst hTj
      go_wp2_with fail
      go_ret
      exact ⟨by rw [hZt.out]; rfl, HB2.out⟩
end Go.Proofs.YtfodefgihicafaaDoor
/- The reference's Well: its regions that draw their order. Conditions: lengths. (BEGUN: Well itself is still to come.) -/
namespace Go.Proofs.YtfodefgihicafaaDoor
set_option linter.unusedVariables false
set_option linter.unusedSimpArgs false
open Go.RowKit
set_option maxHeartbeats 1000000
set_option maxRecDepth 100000
theorem rw11 (Q : Exit → Act → World → Prop) (a0 : Act) (w : World) (R a k q i N : Nat) (A B : Option Addr) (L c cl : Nat) (b t e y : Int) (r : Bool) (x : BitVec 64) (hR : R < w.heap.size) (ad ad2 : Addr) (hA : A = some ad) (hB : B = some ad2) (c0 : w.cell? ⟨R, 0, none⟩ = some (.slice A L c)) (hlt : (ad2.add i).block < w.heap.size) (hlt2 : (ad.add q).block < w.heap.size) (cl1 : w.cell? (ad2.add i) = some (.int .i64 (a : Int))) (q0 : (0 : Int) ≤ (i : Int)) (q1 : (i : Int) < (N : Int)) (q2 : (0 : Int) ≤ (a : Int)) (q3 : (a : Int) ≤ 100000) (q4 : (k : Int) ≤ 100) (q5 : (0 : Int) ≤ (k : Int)) (q6 : (q : Int) < (L : Int)) (q7 : (a : Int) + 1 + (k : Int) = (q : Int)) (q8 : (0 : Int) ≤ (q : Int)) (cw : w.cell? (ad.add q) = some (.int .u64 (U64 x))) (hp : Hid (∀ W, Below w.heap.size w W → Calls Tryd.prog 47 #[.slice B N cl, .int .u64 (U64 x)] W (RetP (.bool r) W))) (hsz : a0.tmps.size = 65) (sl0 : a0.tmps.getD 0 undef = .pointer (some ⟨R, 0, none⟩)) (sl3 : a0.tmps.getD 3 undef = .slice B N cl) (sl5 : a0.tmps.getD 5 undef = .int .i64 (i : Int)) (sl8 : a0.tmps.getD 8 undef = .int .i64 (k : Int))
    (fin : ∀ (vals : Nat → Value) (w1 : World), Below w.heap.size w w1 → (IsV (.bool (!r))) (vals 15) w1 → Q .normal (putD vals [42, 43, 44, 45, 46, 47, 48, 49, 50, 51, 52, 53, 54, 55, 56, 57] 0 a0) w1) :
    (Code.region 11 (regIn Tryd.f19 11) true).wp Tryd.prog Q a0 w := by
  refine region_by (G := fun w w1 => Below w.heap.size w w1) [IsV (.slice B N cl),
    IsV (.pointer (some ⟨R, 0, none⟩)),
    IsV (.pointer (some ⟨R, 0, none⟩)),
    IsV (.pointer (some ⟨R, 0, none⟩)),
    IsV (.slice A L c),
    IsV (.slice B N cl),
    IsV (.int .i64 (i : Int)),
    IsV (.pointer (some (ad2.add i))),
    IsV (.int .i64 (a : Int)),
    IsV (.int .i64 ((a : Int) + 1)),
    IsV (.int .i64 (k : Int)),
    IsV (.int .i64 (q : Int)),
    IsV (.pointer (some (ad.add q))),
    IsV (.int .u64 (U64 x)),
    IsV (.bool r),
    IsV (.bool (!r))]
    [42, 43, 44, 45, 46, 47, 48, 49, 50, 51, 52, 53, 54, 55, 56, 57] (by kernel_rfl) (Gw.drew _) Gw.trans (by rw [hsz]; kernel_rfl) (by kernel_rfl) ?_ ?_ ?_
  · intro f hf
    simp only [List.mem_cons, List.not_mem_nil, or_false] at hf
    rcases hf with rfl | rfl | rfl | rfl | rfl | rfl | rfl | rfl | rfl | rfl | rfl | rfl | rfl | rfl | rfl | rfl <;> intro v a b h g <;> first | exact IsV.mono h
  · refine ⟨?_, ?_, ?_, ?_, ?_, ?_, ?_, ?_, ?_, ?_, ?_, ?_, ?_, ?_, ?_, ?_, trivial⟩
    · exact owes_mv 3 (by kernel_rfl) (by kernel_rfl) (by kernel_rfl) sl3 (fun _ => rfl)
    · exact owes_mv 0 (by kernel_rfl) (by kernel_rfl) (by kernel_rfl) sl0 (fun _ => rfl)
    · refine owes_v (Go.Op.nilCheck (Go.Operand.tmp 43)) 0 [1] (by kernel_rfl) (by kernel_rfl) (by kernel_rfl) rfl fun vals w1 ρ hG hF hρ hcst hfun => ?_
      have e43 : ρ (.tmp 43) = .pointer (some ⟨R, 0, none⟩) := ((hρ 43).trans (slotJ [1] (by rw [hsz]; decide) (by kernel_rfl))).trans (hF 1 (by decide))
      clear hρ hF hcst hfun sl0 sl3 sl5 sl8 fin
      exact opv_val (by go_simp <;> rfl) ⟨gw_self _, rfl⟩
    · refine owes_v (Go.Op.fieldAddr 29 (Go.Operand.tmp 44) 0) 0 [2] (by kernel_rfl) (by kernel_rfl) (by kernel_rfl) rfl fun vals w1 ρ hG hF hρ hcst hfun => ?_
      have e44 : ρ (.tmp 44) = .pointer (some ⟨R, 0, none⟩) := ((hρ 44).trans (slotJ [2] (by rw [hsz]; decide) (by kernel_rfl))).trans (hF 2 (by decide))
      clear hρ hF hcst hfun sl0 sl3 sl5 sl8 fin
      exact opv_val (by go_simp <;> rfl) ⟨gw_self _, rfl⟩
    · refine owes_v (Go.Op.load 22 (Go.Operand.tmp 45)) 22 [3] (by kernel_rfl) (by kernel_rfl) (by kernel_rfl) rfl fun vals w1 ρ hG hF hρ hcst hfun => ?_
      have e45 : ρ (.tmp 45) = .pointer (some ⟨R, 0, none⟩) := ((hρ 45).trans (slotJ [3] (by rw [hsz]; decide) (by kernel_rfl))).trans (hF 3 (by decide))
      have k := (hG.cell (p := ⟨R, 0, none⟩) hR).trans c0
      clear hρ hF hcst hfun sl0 sl3 sl5 sl8 fin
      exact opv_val (by go_simp <;> rfl) ⟨gw_self _, rfl⟩
    · exact owes_mv 3 (by kernel_rfl) (by kernel_rfl) (by kernel_rfl) sl3 (fun _ => rfl)
    · exact owes_mv 5 (by kernel_rfl) (by kernel_rfl) (by kernel_rfl) sl5 (fun _ => rfl)
    · refine owes_v (Go.Op.indexAddr 62 (Go.Operand.tmp 47) (Go.Operand.tmp 48)) 0 [5, 6] (by kernel_rfl) (by kernel_rfl) (by kernel_rfl) rfl fun vals w1 ρ hG hF hρ hcst hfun => ?_
      have e47 : ρ (.tmp 47) = .slice B N cl := ((hρ 47).trans (slotJ [5, 6] (by rw [hsz]; decide) (by kernel_rfl))).trans (hF 5 (by decide))
      have e48 : ρ (.tmp 48) = .int .i64 (i : Int) := ((hρ 48).trans (slotJ [5, 6] (by rw [hsz]; decide) (by kernel_rfl))).trans (hF 6 (by decide))
      subst hB
      clear hρ hF hcst hfun sl0 sl3 sl5 sl8 fin
      exact opv_val (by go_simp <;> rfl) ⟨gw_self _, rfl⟩
    · refine owes_v (Go.Op.load 3 (Go.Operand.tmp 49)) 3 [7] (by kernel_rfl) (by kernel_rfl) (by kernel_rfl) rfl fun vals w1 ρ hG hF hρ hcst hfun => ?_
      have e49 : ρ (.tmp 49) = .pointer (some (ad2.add i)) := ((hρ 49).trans (slotJ [7] (by rw [hsz]; decide) (by kernel_rfl))).trans (hF 7 (by decide))
      have k := (hG.cell (p := ad2.add i) hlt).trans cl1
      clear hρ hF hcst hfun sl0 sl3 sl5 sl8 fin
      exact opv_val (by go_simp <;> rfl) ⟨gw_self _, rfl⟩
    · refine owes_v (Go.Op.binOp Go.BinOp.add 3 (Go.Operand.tmp 50) (Go.Operand.const (Go.Value.int Go.IntKind.i64 1)) 3) 3 [8] (by kernel_rfl) (by kernel_rfl) (by kernel_rfl) rfl fun vals w1 ρ hG hF hρ hcst hfun => ?_
      have e50 : ρ (.tmp 50) = .int .i64 (a : Int) := ((hρ 50).trans (slotJ [8] (by rw [hsz]; decide) (by kernel_rfl))).trans (hF 8 (by decide))
      have kw0 : IntKind.i64.wrap (((a : Int) + 1)) = ((a : Int) + 1) := wrapIn (by omega) (by omega)
      clear hρ hF hfun sl0 sl3 sl5 sl8 fin
      exact opv_val (by go_simp <;> rfl) ⟨gw_self _, rfl⟩
    · exact owes_mv 8 (by kernel_rfl) (by kernel_rfl) (by kernel_rfl) sl8 (fun _ => rfl)
    · refine owes_v (Go.Op.binOp Go.BinOp.add 3 (Go.Operand.tmp 51) (Go.Operand.tmp 52) 3) 3 [9, 10] (by kernel_rfl) (by kernel_rfl) (by kernel_rfl) rfl fun vals w1 ρ hG hF hρ hcst hfun => ?_
      have e51 : ρ (.tmp 51) = .int .i64 ((a : Int) + 1) := ((hρ 51).trans (slotJ [9, 10] (by rw [hsz]; decide) (by kernel_rfl))).trans (hF 9 (by decide))
      have e52 : ρ (.tmp 52) = .int .i64 (k : Int) := ((hρ 52).trans (slotJ [9, 10] (by rw [hsz]; decide) (by kernel_rfl))).trans (hF 10 (by decide))
      have kw0 : IntKind.i64.wrap (((q : Int))) = ((q : Int)) := wrapIn (by omega) (by omega)
      clear hρ hF hcst hfun sl0 sl3 sl5 sl8 fin
      exact opv_val (by go_simp <;> rfl) ⟨gw_self _, rfl⟩
    · refine owes_v (Go.Op.indexAddr 22 (Go.Operand.tmp 46) (Go.Operand.tmp 53)) 0 [4, 11] (by kernel_rfl) (by kernel_rfl) (by kernel_rfl) rfl fun vals w1 ρ hG hF hρ hcst hfun => ?_
      have e46 : ρ (.tmp 46) = .slice A L c := ((hρ 46).trans (slotJ [4, 11] (by rw [hsz]; decide) (by kernel_rfl))).trans (hF 4 (by decide))
      have e53 : ρ (.tmp 53) = .int .i64 (q : Int) := ((hρ 53).trans (slotJ [4, 11] (by rw [hsz]; decide) (by kernel_rfl))).trans (hF 11 (by decide))
      subst hA
      clear hρ hF hcst hfun sl0 sl3 sl5 sl8 fin
      exact opv_val (by go_simp <;> rfl) ⟨gw_self _, rfl⟩
    · refine owes_v (Go.Op.load 68 (Go.Operand.tmp 54)) 68 [12] (by kernel_rfl) (by kernel_rfl) (by kernel_rfl) rfl fun vals w1 ρ hG hF hρ hcst hfun => ?_
      have e54 : ρ (.tmp 54) = .pointer (some (ad.add q)) := ((hρ 54).trans (slotJ [12] (by rw [hsz]; decide) (by kernel_rfl))).trans (hF 12 (by decide))
      have k := (hG.cell (p := ad.add q) hlt2).trans cw
      clear hρ hF hcst hfun sl0 sl3 sl5 sl8 fin
      exact opv_val (by go_simp <;> rfl) ⟨gw_self _, rfl⟩
    · refine owes_v (Go.Op.call { callee := Go.Callee.value (Go.Operand.func 47), args := #[Go.Operand.tmp 42, Go.Operand.tmp 55], argTypes := #[62, 68] }) 4 [0, 13] (by kernel_rfl) (by kernel_rfl) (by kernel_rfl) rfl fun vals w1 ρ hG hF hρ hcst hfun => ?_
      have e42 : ρ (.tmp 42) = .slice B N cl := ((hρ 42).trans (slotJ [0, 13] (by rw [hsz]; decide) (by kernel_rfl))).trans (hF 0 (by decide))
      have e55 : ρ (.tmp 55) = .int .u64 (U64 x) := ((hρ 55).trans (slotJ [0, 13] (by rw [hsz]; decide) (by kernel_rfl))).trans (hF 13 (by decide))
      clear hρ hF hcst sl0 sl3 sl5 sl8 fin
      exact opv_enter (by go_simp <;> rfl) (of_ret (hp.out w1 hG))
    · refine owes_v (Go.Op.unOp Go.UnOp.not 4 (Go.Operand.tmp 56)) 4 [14] (by kernel_rfl) (by kernel_rfl) (by kernel_rfl) rfl fun vals w1 ρ hG hF hρ hcst hfun => ?_
      have e56 : ρ (.tmp 56) = .bool r := ((hρ 56).trans (slotJ [14] (by rw [hsz]; decide) (by kernel_rfl))).trans (hF 14 (by decide))
      clear hρ hF hcst hfun sl0 sl3 sl5 sl8 fin
      exact opv_val (by go_simp <;> rfl) ⟨gw_self _, rfl⟩
  · intro vals w1 hG hF
    exact fin vals w1 hG (hF 15 (by decide +kernel))
theorem rw13 (Q : Exit → Act → World → Prop) (a0 : Act) (w : World) (R a i N g : Nat) (B : Option Addr) (cl : Nat) (P n : Int) (r : Bool) (ad2 : Addr) (hB : B = some ad2) (hlt : (ad2.add i).block < w.heap.size) (cl1 : w.cell? (ad2.add i) = some (.int .i64 (a : Int))) (q0 : (0 : Int) ≤ (i : Int)) (q1 : (i : Int) < (N : Int)) (hg : g < w.heap.size) (g0 : w.cell? ⟨g, 0, none⟩ = some (.int .i64 P)) (g1 : w.cell? ⟨g, 1, none⟩ = some (.int .i64 n)) (g2 : w.cell? ⟨g, 2, none⟩ = some (.bool false)) (g3 : w.cell? ⟨g, 3, none⟩ = some (.int .i64 0)) (hp : Hid (∀ W, Below w.heap.size w W → Calls Tryd.prog 48 #[.pointer (some ⟨R, 0, none⟩), .int .i64 (a : Int), .agg #[.int .i64 P, .int .i64 n, .bool false, .int .i64 0]] W (RetP (.bool r) W))) (hsz : a0.tmps.size = 65) (sl0 : a0.tmps.getD 0 undef = .pointer (some ⟨R, 0, none⟩)) (sl3 : a0.tmps.getD 3 undef = .slice B N cl) (sl5 : a0.tmps.getD 5 undef = .int .i64 (i : Int)) (sl6 : a0.tmps.getD 6 undef = .pointer (some ⟨g, 0, none⟩))
    (fin : ∀ (vals : Nat → Value) (w1 : World), Below w.heap.size w w1 → (IsV (.bool r)) (vals 6) w1 → Q .normal (putD vals [58, 59, 60, 61, 62, 63, 64] 0 a0) w1) :
    (Code.region 13 (regIn Tryd.f19 13) true).wp Tryd.prog Q a0 w := by
  refine region_by (G := fun w w1 => Below w.heap.size w w1) [IsV (.pointer (some ⟨R, 0, none⟩)),
    IsV (.slice B N cl),
    IsV (.int .i64 (i : Int)),
    IsV (.pointer (some (ad2.add i))),
    IsV (.int .i64 (a : Int)),
    IsV (.agg #[.int .i64 P, .int .i64 n, .bool false, .int .i64 0]),
    IsV (.bool r)]
    [58, 59, 60, 61, 62, 63, 64] (by kernel_rfl) (Gw.drew _) Gw.trans (by rw [hsz]; kernel_rfl) (by kernel_rfl) ?_ ?_ ?_
  · intro f hf
    simp only [List.mem_cons, List.not_mem_nil, or_false] at hf
    rcases hf with rfl | rfl | rfl | rfl | rfl | rfl | rfl <;> intro v a b h g <;> first | exact IsV.mono h
  · refine ⟨?_, ?_, ?_, ?_, ?_, ?_, ?_, trivial⟩
    · exact owes_mv 0 (by kernel_rfl) (by kernel_rfl) (by kernel_rfl) sl0 (fun _ => rfl)
    · exact owes_mv 3 (by kernel_rfl) (by kernel_rfl) (by kernel_rfl) sl3 (fun _ => rfl)
    · exact owes_mv 5 (by kernel_rfl) (by kernel_rfl) (by kernel_rfl) sl5 (fun _ => rfl)
    · refine owes_v (Go.Op.indexAddr 62 (Go.Operand.tmp 59) (Go.Operand.tmp 60)) 0 [1, 2] (by kernel_rfl) (by kernel_rfl) (by kernel_rfl) rfl fun vals w1 ρ hG hF hρ hcst hfun => ?_
      have e59 : ρ (.tmp 59) = .slice B N cl := ((hρ 59).trans (slotJ [1, 2] (by rw [hsz]; decide) (by kernel_rfl))).trans (hF 1 (by decide))
      have e60 : ρ (.tmp 60) = .int .i64 (i : Int) := ((hρ 60).trans (slotJ [1, 2] (by rw [hsz]; decide) (by kernel_rfl))).trans (hF 2 (by decide))
      subst hB
      clear hρ hF hcst hfun sl0 sl3 sl5 sl6 fin
      exact opv_val (by go_simp <;> rfl) ⟨gw_self _, rfl⟩
    · refine owes_v (Go.Op.load 3 (Go.Operand.tmp 61)) 3 [3] (by kernel_rfl) (by kernel_rfl) (by kernel_rfl) rfl fun vals w1 ρ hG hF hρ hcst hfun => ?_
      have e61 : ρ (.tmp 61) = .pointer (some (ad2.add i)) := ((hρ 61).trans (slotJ [3] (by rw [hsz]; decide) (by kernel_rfl))).trans (hF 3 (by decide))
      have k := (hG.cell (p := ad2.add i) hlt).trans cl1
      clear hρ hF hcst hfun sl0 sl3 sl5 sl6 fin
      exact opv_val (by go_simp <;> rfl) ⟨gw_self _, rfl⟩
    · refine owes_v (Go.Op.load 74 (Go.Operand.tmp 6)) 74 [] (by kernel_rfl) (by kernel_rfl) (by kernel_rfl) rfl fun vals w1 ρ hG hF hρ hcst hfun => ?_
      have e6 : ρ (.tmp 6) = .pointer (some ⟨g, 0, none⟩) := ((hρ 6).trans (slotO [] (by kernel_rfl))).trans sl6
      have k0 := (hG.cell (p := ⟨g, 0, none⟩) hg).trans g0; have k1 := (hG.cell (p := ⟨g, 1, none⟩) hg).trans g1; have k2 := (hG.cell (p := ⟨g, 2, none⟩) hg).trans g2; have k3 := (hG.cell (p := ⟨g, 3, none⟩) hg).trans g3
      clear hρ hF hcst hfun sl0 sl3 sl5 sl6 fin
      exact opv_val (by go_simp <;> rfl) ⟨gw_self _, rfl⟩
    · refine owes_v (Go.Op.call { callee := Go.Callee.value (Go.Operand.func 48), args := #[Go.Operand.tmp 58, Go.Operand.tmp 62, Go.Operand.tmp 63], argTypes := #[27, 3, 74] }) 4 [0, 4, 5] (by kernel_rfl) (by kernel_rfl) (by kernel_rfl) rfl fun vals w1 ρ hG hF hρ hcst hfun => ?_
      have e58 : ρ (.tmp 58) = .pointer (some ⟨R, 0, none⟩) := ((hρ 58).trans (slotJ [0, 4, 5] (by rw [hsz]; decide) (by kernel_rfl))).trans (hF 0 (by decide))
      have e62 : ρ (.tmp 62) = .int .i64 (a : Int) := ((hρ 62).trans (slotJ [0, 4, 5] (by rw [hsz]; decide) (by kernel_rfl))).trans (hF 4 (by decide))
      have e63 : ρ (.tmp 63) = .agg #[.int .i64 P, .int .i64 n, .bool false, .int .i64 0] := ((hρ 63).trans (slotJ [0, 4, 5] (by rw [hsz]; decide) (by kernel_rfl))).trans (hF 5 (by decide))
      clear hρ hF hcst sl0 sl3 sl5 sl6 fin
      exact opv_enter (by go_simp <;> rfl) (of_ret (hp.out w1 hG))
  · intro vals w1 hG hF
    exact fin vals w1 hG (hF 6 (by decide +kernel))
end Go.Proofs.YtfodefgihicafaaDoor
/- A region that keeps its order, by a fact for each of its operations. No conditions. -/
namespace Go.Proofs.YtfodefgihicafaaDoor
set_option linter.unusedVariables false
set_option linter.unusedSimpArgs false
open Go.RowKit
section
variable {P : Program} {ops : Array Oper} {Q : Exit → Act → World → Prop} {G : World → World → Prop} {F : Nat → Value → World → Prop} {a0 : Act} {w0 : World}
theorem list_facts0 (hrefl : G w0 w0) (htrans : ∀ a b c, G a b → G b c → G a c) (hmono : ∀ j, j < ops.size → ∀ v a b, F j v a → G a b → F j v b)
    (hreg : regB ops a0.tmps.size = true) (howes : ∀ i, i < ops.size → Owes P ops Q G F a0 w0 i)
    (fin : ∀ (vals : Nat → Value) (w : World), G w0 w → (∀ j, j < ops.size → F j (vals j) w) → Q .normal (putL ops vals (List.range ops.size) a0) w) :
    wpList P ops Q ops.toList a0 w0 := by
  have main : ∀ (n k : Nat) (a : Act) (w : World), k + n = ops.size → G w0 w → a.defers = a0.defers → a.tmps.size = a0.tmps.size →
      (∀ j, j < k → F j (valAt ops a j) w) → (∀ t, (∀ j, j < k → dstOf ops j ≠ some t) → a.tmps.getD t undef = a0.tmps.getD t undef) →
      wpOps P ops Q (List.range' k n) a w := by
    intro n
    induction n with
    | zero =>
      intro k a w hk hG hd hs hF hR
      obtain rfl : k = ops.size := by omega
      show Q .normal a w
      have := fin (valAt ops a) w hG hF
      rw [putL_whole a (List.range ops.size) a0 hs.symm hd.symm] at this
      · exact this
      · intro t
        by_cases e : ∃ j, j < ops.size ∧ dstOf ops j = some t
        · obtain ⟨j, hj, hjd⟩ := e
          exact .inr ⟨j, List.mem_range.2 hj, hjd⟩
        · left
          exact (hR t fun j hj he => e ⟨j, hj, he⟩).symm
    | succ n ih =>
      intro k a w hk hG hd hs hF hR
      have hlt : k < ops.size := by omega
      rw [List.range'_succ, wpOps_cons]
      have hw : ∀ i j, i < ops.size → waitsB ops i j = true → j < i := by
        intro i j hi hj
        obtain ⟨o', ho', e, he, hb, rfl⟩ := waits_some hj
        obtain ⟨o, d, ho, _, _, _, hh⟩ := regB_at hreg hi
        rw [ho] at ho'
        injection ho' with ho'
        subst ho'
        exact hh e he hb
      have hlt2 : ∀ j t, dstOf ops j = some t → j < ops.size := by
        intro j t h
        rcases Nat.lt_or_ge j ops.size with hl | hl
        · exact hl
        · unfold dstOf at h; rw [Array.getElem?_eq_none hl] at h; cases h
      have hstep := howes k hlt a w hG hd hs (fun j hj => hF j (hw k j hlt hj)) (fun t ht => hR t fun j hj he => by
        have h1 := ht j he
        have := hw j k (hlt2 j t he) h1
        omega)
      refine wpOp_mono ?_ hstep
      rintro a' w' ⟨v, rfl, hg, hf⟩
      obtain ⟨o2, d, ho2, hd2, hdl, hdd, _⟩ := regB_at hreg hlt
      have hdo : dstOf ops k = some d := by unfold dstOf; rw [ho2]; exact hd2
      rw [hdo]
      refine ih (k + 1) (a.put (some d) v) w' (by omega) (htrans _ _ _ hG hg) (by exact hd) (by rw [put_size, hs]) ?_ ?_
      · intro j hj
        by_cases e : j = k
        · subst e
          unfold valAt
          rw [hdo]
          simp only
          rw [put_same _ _ _ (by rw [hs]; exact hdl)]
          exact hf
        · have h1 := hmono j (by omega) _ _ _ (hF j (by omega)) hg
          have h2 : valAt ops (a.put (some d) v) j = valAt ops a j := by
            unfold valAt
            have hne := hdd j (by omega) e
            cases hjd : dstOf ops j with
            | none => rfl
            | some dj =>
              simp only
              exact put_other _ _ _ _ (fun h => hne (by rw [hjd]; exact h.symm))
          rw [h2]
          exact h1
      · intro t ht
        have h1 : some d ≠ some t := fun h => ht k (by omega) (by rw [hdo]; exact h)
        rw [put_other _ _ _ _ h1]
        exact hR t fun j hj => ht j (by omega)
  rw [← wpOps_eq_wpList ops.toList 0 (by simp), Array.length_toList]
  exact main ops.size 0 a0 w0 (by omega) hrefl rfl rfl (fun j hj => absurd hj (by omega)) (fun t _ => rfl)
end
section
variable {P : Program} {ops : Array Oper} {Q : Exit → Act → World → Prop} {F : Nat → Value → World → Prop} {a0 : Act} {w0 : World}
/-- An operation under a guard that itself was left out. -/
theorem owes_un {i : Nat} (k : Nat) (want : Bool) (hg : (ops[i]?).bind (·.guard) = some (k, want)) (hk : waitsB ops i k = true) (hc : ∀ v w, F k v w → v = undef)
    (hsz : ((dstOf ops k).map fun d => decide (d < a0.tmps.size)) = some true) (hF : ∀ w, F i undef w) : Owes P ops Q (fun w w' => Below w.heap.size w w') F a0 w0 i := by
  cases hi : ops[i]? with
  | none => rw [hi] at hg; cases hg
  | some o =>
    rw [hi] at hg
    intro a w hG hd hs hF' hR
    have hy : yielded ops a.tmps k = none := by
      have h1 := hc _ _ (hF' k hk)
      unfold valAt at h1
      unfold yielded
      cases hkd : dstOf ops k with
      | none => rw [hkd] at hsz; cases hsz
      | some d =>
        rw [hkd] at hsz h1
        have hl : d < a.tmps.size := by rw [hs]; simpa using hsz
        unfold dstOf at hkd
        rw [hkd]
        simp only [Option.bind_some] at h1 ⊢
        rw [Array.getD_eq_getD_getElem?, Array.getElem?_eq_getElem hl] at h1
        rw [Array.getElem?_eq_getElem hl]
        simp only [Option.getD_some] at h1
        rw [h1]
        rfl
    unfold wpOp
    rw [hi]
    have hw : Region.wanted o (yielded ops a.tmps) = false := by
      unfold Region.wanted
      rw [show o.guard = some (k, want) from hg]
      simp only [hy]
      cases want <;> rfl
    simp only [hw, Bool.false_eq_true, if_false]
    exact ⟨undef, by unfold dstOf; rw [hi]; rfl, Below.refl _ _, hF _⟩
end
/-- A region's operations from the k-th on, each of which waits for all that stand ahead of it. -/
def cutOps (k : Nat) (ops : Array Oper) : List Oper := ops.toList.drop k
def fullO (k : Nat) (p : Oper × Nat) : Oper := { p.1 with guard := p.1.guard.map fun g => (g.1 - k, g.2), after := ((List.range p.2).map fun j => ({ on := j, ground := .data } : Edge)).toArray }
def fullOps (k : Nat) (ops : Array Oper) : Array Oper := ((cutOps k ops).zipIdx.map (fullO k)).toArray
def cutB (k : Nat) (ops : Array Oper) : Bool := (cutOps k ops).all fun o => match o.guard with | none => true | some g => decide (k ≤ g.1)
theorem fullO_wp {P : Program} {k i : Nat} {o : Oper} {a : Act} {w : World} {K : Act → World → Prop} {Q : Exit → Act → World → Prop} (h : (fullO k (o, i)).wp P a w K Q) : o.wp P a w K Q := by
  cases o
  exact h
theorem fullO_asks {P : Program} {k i : Nat} {o : Oper} {a : Act} {w : World} (h : (fullO k (o, i)).asks P a w) : o.asks P a w := by
  cases o
  exact h
theorem fullO_dst (k i : Nat) (o : Oper) : (fullO k (o, i)).dst = o.dst := rfl
theorem full_get {ops : Array Oper} {k j : Nat} (h : k ≤ j) : ((fullOps k ops)[j - k]?).bind (·.dst) = (ops[j]?).bind (·.dst) := by
  unfold fullOps cutOps
  rw [List.getElem?_toArray, List.getElem?_map, List.getElem?_zipIdx, List.getElem?_drop]
  rw [show k + (j - k) = j by omega, Array.getElem?_toList]
  cases ops[j]? with
  | none => rfl
  | some o => rfl
theorem full_list {P : Program} {ops : Array Oper} {Q : Exit → Act → World → Prop} {k : Nat} : ∀ (l : List Oper) (i : Nat), (l.all fun o => match o.guard with | none => true | some g => decide (k ≤ g.1)) = true →
    ∀ a w, wpList P (fullOps k ops) Q ((l.zipIdx i).map (fullO k)) a w → wpList P ops Q l a w
  | [], _, _, _, _, h => h
  | o :: l, i, hg, a, w, h => by
    rw [List.all_cons, Bool.and_eq_true] at hg
    have hw : Region.wanted (fullO k (o, i)) (yielded (fullOps k ops) a.tmps) = Region.wanted o (yielded ops a.tmps) := by
      unfold Region.wanted fullO
      cases hgd : o.guard with
      | none => rfl
      | some g =>
        have hk : k ≤ g.1 := by have := hg.1; rw [hgd] at this; simpa using this
        have : yielded (fullOps k ops) a.tmps (g.1 - k) = yielded ops a.tmps g.1 := by unfold yielded; rw [full_get hk]
        obtain ⟨g1, g2⟩ := g
        simp only [Option.map_some] at this ⊢
        rw [this]
    rw [List.zipIdx_cons, List.map_cons] at h
    unfold wpList at h ⊢
    rw [hw] at h
    split
    · rename_i hy
      rw [if_pos hy] at h
      rcases h with h | h
      · exact .inl (Oper.wp_mono (fun a w h => full_list l (i + 1) hg.2 a w h) (fullO_wp h))
      · exact .inr ⟨fullO_asks h.1, h.2⟩
    · rename_i hy
      rw [if_neg hy] at h
      exact full_list l (i + 1) hg.2 _ _ h
/-- The rest of a region, from the k-th operation on, by a fact for each of its operations. -/
theorem list_by0 {P : Program} {ops0 ops : Array Oper} {Q : Exit → Act → World → Prop} {G : World → World → Prop} {a0 : Act} {w0 : World} {k : Nat} {rest : List Oper} (Fs : List (Value → World → Prop)) (ds : List Tmp)
    (ho : fullOps k ops0 = ops) (hr : rest = cutOps k ops0) (hc : cutB k ops0 = true)
    (hrefl : G w0 w0) (htrans : ∀ a b c, G a b → G b c → G a c)
    (hreg : regB ops a0.tmps.size = true) (hds : (List.range' 0 ops.size).map (dstOf ops) = ds.map some)
    (hmono : ∀ f ∈ Fs, ∀ v a b, f v a → G a b → f v b)
    (howes : AllN (Owes P ops Q G (fun j => Fs.getD j fun _ _ => True) a0 w0) ops.size 0)
    (fin : ∀ (vals : Nat → Value) (w : World), G w0 w → (∀ j, j < ops.size → (Fs.getD j fun _ _ => True) (vals j) w) → Q .normal (putD vals ds 0 a0) w) :
    wpList P ops0 Q rest a0 w0 := by
  subst hr
  have h : wpList P ops Q ops.toList a0 w0 := by
    refine list_facts0 hrefl htrans ?_ hreg (fun i hi => howes.at_ _ _ i (by omega) (by omega)) ?_
    · intro j _ v a b h g
      rw [List.getD_eq_getElem?_getD] at h ⊢
      cases hj : Fs[j]? with
      | none => rw [hj] at h; exact trivial
      | some f => rw [hj] at h; exact hmono f (List.mem_of_getElem? hj) v a b h g
    · intro vals w hG hF
      rw [List.range_eq_range', putD_eq vals ds ops.size 0 a0 hds]
      exact fin vals w hG hF
  subst ho
  exact full_list _ 0 hc a0 w0 h
end Go.Proofs.YtfodefgihicafaaDoor
/- A region that draws its order, some of whose operations store into boxes that it makes: by a fact for each operation. No conditions. -/
namespace Go.Proofs.YtfodefgihicafaaDoor
set_option linter.unusedVariables false
set_option linter.unusedSimpArgs false
open Go.RowKit
section
variable {P : Program} {ops : Array Oper} {Q : Exit → Act → World → Prop} {G D : World → World → Prop} {F : Nat → Value → World → Prop} {a0 : Act} {w0 : World} {src : Nat → Nat}
/-- Each operation has a slot of its own, or none; it waits for elder ones alone; none defers. -/
def regGB (ops : Array Oper) (size : Nat) : Bool :=
  (List.range ops.size).all fun i => match ops[i]? with
    | none => false
    | some o =>
      (match o.dst with
       | none => true
       | some d => decide (d < size) && (List.range ops.size).all fun j => j == i || dstOf ops j != some d) &&
      (o.after.all fun e => !Region.binds .any e || decide (e.on < i)) &&
      (match o.op with | .defer _ => false | .select .. => false | _ => true)
def srcB (ops : Array Oper) (src : Nat → Nat) : Bool :=
  (List.range ops.size).all fun i => (src i == i && (dstOf ops i).isSome) || ((dstOf ops i).isNone && waitsB ops i (src i) && (dstOf ops (src i)).isSome)
/-- What operation i owes: its fact, of what it leaves, or of what another has left, and what it turns. -/
def OwesG (P : Program) (ops : Array Oper) (Q : Exit → Act → World → Prop) (G D : World → World → Prop) (F : Nat → Value → World → Prop) (src : Nat → Nat) (a0 : Act) (w0 : World) (i : Nat) : Prop :=
  ∀ (a : Act) (w : World), G w0 w → a.defers = a0.defers → a.tmps.size = a0.tmps.size →
    (∀ j, waitsB ops i j = true → src j = j → F j (valAt ops a j) w) →
    (∀ t, (∀ j, dstOf ops j = some t → waitsB ops j i = true) → a.tmps.getD t undef = a0.tmps.getD t undef) →
    wpOp P ops Q i (fun a' w' => ∃ v, a' = a.put (dstOf ops i) v ∧ D w w' ∧ F i (if src i = i then v else valAt ops a (src i)) w') a w
theorem regGB_at {size : Nat} (h : regGB ops size = true) {i : Nat} (hi : i < ops.size) : ∃ o, ops[i]? = some o ∧ (∀ d, o.dst = some d → d < size ∧ (∀ j, j < ops.size → j ≠ i → dstOf ops j ≠ some d)) ∧ (∀ e ∈ o.after, Region.binds .any e = true → e.on < i) := by
  unfold regGB at h
  rw [List.all_eq_true] at h
  have h1 := h i (List.mem_range.2 hi)
  cases ho : ops[i]? with
  | none => rw [ho] at h1; cases h1
  | some o =>
    rw [ho] at h1
    simp only [Bool.and_eq_true] at h1
    obtain ⟨⟨h1, h2⟩, _⟩ := h1
    refine ⟨o, rfl, fun d hd => ?_, fun e he hb => ?_⟩
    · rw [hd] at h1
      simp only [Bool.and_eq_true, decide_eq_true_eq, List.all_eq_true, List.mem_range, Bool.or_eq_true, beq_iff_eq, bne_iff_ne] at h1
      refine ⟨h1.1, fun j hj hne => ?_⟩
      rcases h1.2 j hj with h | h
      · exact absurd h hne
      · exact h
    · have := Array.all_eq_true_iff_forall_mem.1 h2 e he
      simpa [hb] using this
/-- What operation i owes, at the very state: its fact, of whatever it leaves. -/
def OwesD (P : Program) (ops : Array Oper) (Q : Exit → Act → World → Prop) (G D : World → World → Prop) (F : Nat → Value → World → Prop) (a0 : Act) (w0 : World) (i : Nat) : Prop :=
  ∀ (a : Act) (w : World), G w0 w → a.defers = a0.defers → a.tmps.size = a0.tmps.size →
    (∀ j, waitsB ops i j = true → F j (valAt ops a j) w) →
    (∀ t, (∀ j, dstOf ops j = some t → waitsB ops j i = true) → a.tmps.getD t undef = a0.tmps.getD t undef) →
    wpOp P ops Q i (fun a' w' => ∃ v, a' = a.put (dstOf ops i) v ∧ D w w' ∧ F i v w') a w

/-- An operation that runs whatever comes: by the operations js that it waits for. -/
theorem owes_ofD {i : Nat} {o : Oper} (js : List Nat) (ho : ops[i]? = some o) (hg : o.guard = none) (hsee : seesB ops i js = true)
    (hnd : match o.op with | .defer _ => False | .select .. => False | _ => True)
    (h : ∀ (vals : Nat → Value) (w : World), G w0 w → (∀ j ∈ js, F j (vals j) w) → ∀ K : Act → World → Prop, (∀ v w', D w w' → F i v w' → K ((putL ops vals js a0).put o.dst v) w') →
      Oper.wp P o (putL ops vals js a0) w K NoQ) : OwesD P ops Q G D F a0 w0 i := by
  intro a w hG hd hs hF hR
  unfold wpOp
  rw [ho]
  simp only [Region.wanted, hg, if_true]
  left
  have hsee' : (js.all (fun j => waitsB ops i j) = true) ∧ ∀ t ∈ (o.op.operands.toList.filterMap fun | .tmp t => some t | _ => none), js.any (fun j => dstOf ops j == some t) = true ∨ (List.range ops.size).all (fun j => dstOf ops j != some t || waitsB ops j i) = true := by
    unfold seesB at hsee
    rw [ho] at hsee
    simp only [Bool.and_eq_true, List.all_eq_true, Bool.or_eq_true] at hsee
    refine ⟨by rw [List.all_eq_true]; exact hsee.1, fun t ht => ?_⟩
    rcases hsee.2 t ht with h | h
    · exact .inl h
    · right; rw [List.all_eq_true]; simpa using h
  have hjs : ∀ j ∈ js, waitsB ops i j = true := List.all_eq_true.1 hsee'.1
  have ht : ∀ t ∈ (o.op.operands.toList.filterMap fun | .tmp t => some t | _ => none), a0.tmps.getD t undef = a.tmps.getD t undef ∨ ∃ j ∈ js, dstOf ops j = some t := by
    intro t ht
    rcases hsee'.2 t ht with h | h
    · right
      rw [List.any_eq_true] at h
      obtain ⟨j, hj, e⟩ := h
      exact ⟨j, hj, by simpa using e⟩
    · left
      refine (hR t fun j hj => ?_).symm
      rw [List.all_eq_true] at h
      have hlt : j < ops.size := by
        rcases Nat.lt_or_ge j ops.size with hl | hl
        · exact hl
        · unfold dstOf at hj; rw [Array.getElem?_eq_none hl] at hj; cases hj
      have := h j (List.mem_range.2 hlt)
      simpa [hj] using this
  have he : execOp (putL ops (valAt ops a) js a0).eval o = execOp a.eval o := by
    refine execOp_congr o (fun cs b e => by rw [e] at hnd; exact hnd) fun x hx => ?_
    cases x with
    | tmp t =>
      show (putL ops (valAt ops a) js a0).tmps.getD t undef = a.tmps.getD t undef
      exact putL_at a t js a0 hs.symm (ht t (List.mem_filterMap.2 ⟨.tmp t, by simpa using hx, rfl⟩))
    | _ => rfl
  have hsz : a.tmps.size = (putL ops (valAt ops a) js a0).tmps.size := by rw [putL_size, hs]
  have hdo : dstOf ops i = o.dst := by unfold dstOf; rw [ho]; rfl
  rw [hdo]
  refine wp_same (K1 := fun A' w' => ∃ v, A' = (putL ops (valAt ops a) js a0).put o.dst v ∧ D w w' ∧ F i v w') he hsz hnd ?_ ?_
  · exact h (valAt ops a) w hG (fun j hj => hF j (hjs j hj)) _ (fun v w' g f => ⟨v, rfl, v, rfl, g, f⟩)
  · rintro v w' ⟨v', e, g, f⟩
    exact ⟨v', put_eq e hsz, g, f⟩

/-- An operation under a guard, whose outcome is known. -/
theorem owes_ifD {i k : Nat} {o : Oper} {want : Bool} (c : Bool) (js : List Nat) (ho : ops[i]? = some o) (hg : o.guard = some (k, want)) (hk : waitsB ops i k = true) (hc : ∀ v w, F k v w → v = .bool c)
    (hsz : ∀ d, dstOf ops k = some d → d < a0.tmps.size) (hkd : (dstOf ops k).isSome = true) (hsee : seesB ops i js = true)
    (hnd : match o.op with | .defer _ => False | .select .. => False | _ => True)
    (yes : c = want → ∀ (vals : Nat → Value) (w : World), G w0 w → (∀ j ∈ js, F j (vals j) w) → ∀ K : Act → World → Prop, (∀ v w', D w w' → F i v w' → K ((putL ops vals js a0).put o.dst v) w') →
      Oper.wp P o (putL ops vals js a0) w K NoQ)
    (no : c ≠ want → ∀ w, G w0 w → D w w ∧ F i undef w) : OwesD P ops Q G D F a0 w0 i := by
  intro a w hG hd hs hF hR
  have hy : yielded ops a.tmps k = some c := by
    have h1 := hc _ _ (hF k hk)
    unfold valAt at h1
    unfold yielded
    obtain ⟨d, hd'⟩ := Option.isSome_iff_exists.1 hkd
    have hl := hsz d hd'
    unfold dstOf at hd' h1
    rw [hd'] at h1 ⊢
    simp only [Option.bind_some] at h1 ⊢
    have hl' : d < a.tmps.size := by rw [hs]; exact hl
    rw [Array.getD_eq_getD_getElem?, Array.getElem?_eq_getElem hl'] at h1
    rw [Array.getElem?_eq_getElem hl']
    simp only [Option.getD_some] at h1
    rw [h1]
  have hwant : Region.wanted o (yielded ops a.tmps) = (c == want) := by
    unfold Region.wanted
    rw [hg]
    simp only [hy]
    cases c <;> cases want <;> rfl
  by_cases e : c = want
  · have := owes_ofD (P := P) (ops := ops.setIfInBounds i { o with guard := none }) (Q := Q) (G := G) (D := D) (F := F) (a0 := a0) (w0 := w0) (i := i) (o := { o with guard := none }) js
    unfold wpOp
    rw [ho]
    simp only [hwant, e, beq_self_eq_true, if_true]
    left
    have hsee' : (js.all (fun j => waitsB ops i j) = true) ∧ ∀ t ∈ (o.op.operands.toList.filterMap fun | .tmp t => some t | _ => none), js.any (fun j => dstOf ops j == some t) = true ∨ (List.range ops.size).all (fun j => dstOf ops j != some t || waitsB ops j i) = true := by
      unfold seesB at hsee
      rw [ho] at hsee
      simp only [Bool.and_eq_true, List.all_eq_true, Bool.or_eq_true] at hsee
      refine ⟨by rw [List.all_eq_true]; exact hsee.1, fun t ht => ?_⟩
      rcases hsee.2 t ht with h | h
      · exact .inl h
      · right; rw [List.all_eq_true]; simpa using h
    have hjs : ∀ j ∈ js, waitsB ops i j = true := List.all_eq_true.1 hsee'.1
    have ht : ∀ t ∈ (o.op.operands.toList.filterMap fun | .tmp t => some t | _ => none), a0.tmps.getD t undef = a.tmps.getD t undef ∨ ∃ j ∈ js, dstOf ops j = some t := by
      intro t ht
      rcases hsee'.2 t ht with h | h
      · right
        rw [List.any_eq_true] at h
        obtain ⟨j, hj, e⟩ := h
        exact ⟨j, hj, by simpa using e⟩
      · left
        refine (hR t fun j hj => ?_).symm
        rw [List.all_eq_true] at h
        have hlt : j < ops.size := by
          rcases Nat.lt_or_ge j ops.size with hl | hl
          · exact hl
          · unfold dstOf at hj; rw [Array.getElem?_eq_none hl] at hj; cases hj
        have := h j (List.mem_range.2 hlt)
        simpa [hj] using this
    have he : execOp (putL ops (valAt ops a) js a0).eval o = execOp a.eval o := by
      refine execOp_congr o (fun cs b e => by rw [e] at hnd; exact hnd) fun x hx => ?_
      cases x with
      | tmp t =>
        show (putL ops (valAt ops a) js a0).tmps.getD t undef = a.tmps.getD t undef
        exact putL_at a t js a0 hs.symm (ht t (List.mem_filterMap.2 ⟨.tmp t, by simpa using hx, rfl⟩))
      | _ => rfl
    have hsz' : a.tmps.size = (putL ops (valAt ops a) js a0).tmps.size := by rw [putL_size, hs]
    have hdo : dstOf ops i = o.dst := by unfold dstOf; rw [ho]; rfl
    rw [hdo]
    refine wp_same (K1 := fun A' w' => ∃ v, A' = (putL ops (valAt ops a) js a0).put o.dst v ∧ D w w' ∧ F i v w') he hsz' hnd ?_ ?_
    · exact yes e (valAt ops a) w hG (fun j hj => hF j (hjs j hj)) _ (fun v w' g f => ⟨v, rfl, v, rfl, g, f⟩)
    · rintro v w' ⟨v', e, g, f⟩
      exact ⟨v', put_eq e hsz', g, f⟩
  · have hdo : dstOf ops i = o.dst := by unfold dstOf; rw [ho]; rfl
    unfold wpOp
    rw [ho]
    have hw : (c == want) = false := by rw [beq_eq_false_iff_ne]; exact e
    simp only [hwant, hw, Bool.false_eq_true, if_false]
    rw [hdo]
    obtain ⟨g, f⟩ := no e w hG
    exact ⟨undef, rfl, g, f⟩


theorem owes_vD {i : Nat} (op : Op) (type : TypeId) (js : List Nat) (ho : (ops[i]?).map (fun o => (o.op, o.type)) = some (op, type)) (hg : (ops[i]?).bind (·.guard) = none) (hsee : seesB ops i js = true)
    (hnd : callsB op = true)
    (h : ∀ (vals : Nat → Value) (w : World) (ρ : Operand → Value), G w0 w → (∀ j ∈ js, F j (vals j) w) → (∀ t, ρ (.tmp t) = (putL ops vals js a0).tmps.getD t undef) → (∀ c, ρ (.const c) = c) → (∀ f, ρ (.func f) = .func (.func f) #[] #[]) →
      OpV P op type ρ w fun v w' => D w w' ∧ F i v w') : OwesD P ops Q G D F a0 w0 i := by
  obtain ⟨o, h1, h2, h3⟩ := isOp_mk ho
  subst h2 h3
  rw [h1] at hg
  exact owes_ofD js h1 hg hsee (by revert hnd; cases o.op <;> simp [callsB]) fun vals w hG hF K hK => opv_wp (h vals w (putL ops vals js a0).eval hG hF (fun t => rfl) (fun c => rfl) (fun f => rfl)) fun v w' hr => hK v w' hr.1 hr.2
theorem owes_vifD {i k : Nat} {want : Bool} (op : Op) (type : TypeId) (c : Bool) (js : List Nat) (ho : (ops[i]?).map (fun o => (o.op, o.type)) = some (op, type)) (hg : (ops[i]?).bind (·.guard) = some (k, want)) (hk : waitsB ops i k = true) (hc : ∀ v w, F k v w → v = .bool c)
    (hsz : ∀ d, dstOf ops k = some d → d < a0.tmps.size) (hkd : (dstOf ops k).isSome = true) (hsee : seesB ops i js = true)
    (hnd : callsB op = true)
    (yes : c = want → ∀ (vals : Nat → Value) (w : World) (ρ : Operand → Value), G w0 w → (∀ j ∈ js, F j (vals j) w) → (∀ t, ρ (.tmp t) = (putL ops vals js a0).tmps.getD t undef) → (∀ c, ρ (.const c) = c) → (∀ f, ρ (.func f) = .func (.func f) #[] #[]) →
      OpV P op type ρ w fun v w' => D w w' ∧ F i v w')
    (no : c ≠ want → ∀ w, G w0 w → D w w ∧ F i undef w) : OwesD P ops Q G D F a0 w0 i := by
  obtain ⟨o, h1, h2, h3⟩ := isOp_mk ho
  subst h2 h3
  rw [h1] at hg
  exact owes_ifD c js h1 hg hk hc hsz hkd hsee (by revert hnd; cases o.op <;> simp [callsB]) (fun e vals w hG hF K hK => opv_wp (yes e vals w (putL ops vals js a0).eval hG hF (fun t => rfl) (fun c => rfl) (fun f => rfl)) fun v w' hr => hK v w' hr.1 hr.2) no

/-- A copy of a slot that is as it was. -/
theorem owes_mvD (hD : ∀ w, D w w) {i : Nat} (t : Tmp) {c : Value} (ho : ((ops[i]?).map fun o => copies t o.op) = some true) (hg : (ops[i]?).bind (·.guard) = none) (hsee : seesB ops i [] = true) (hv : a0.tmps.getD t undef = c) (hF : ∀ w, F i c w) :
    OwesD P ops Q G D F a0 w0 i := by
  cases hi : ops[i]? with
  | none => rw [hi] at ho; cases ho
  | some o =>
    rw [hi] at ho
    simp only [Option.map_some, Option.some.injEq] at ho
    refine owes_vD o.op o.type [] (by rw [hi]; rfl) hg hsee (by revert ho; cases o.op <;> simp [copies, callsB]) fun vals w ρ hG hF' hρ hc hf => ?_
    exact opv_val (copies_run ho) ⟨hD _, by rw [hρ t]; show F i (a0.tmps.getD t undef) w; rw [hv]; exact hF w⟩
/-- A copy of what operation j leaves. -/
theorem owes_mvjD (hD : ∀ w, D w w) {i : Nat} (j : Nat) (t : Tmp) (ho : ((ops[i]?).map fun o => copies t o.op) = some true) (hg : (ops[i]?).bind (·.guard) = none) (hsee : seesB ops i [j] = true) (hd : dstOf ops j = some t) (hl : t < a0.tmps.size) (hF : ∀ v w, F j v w → F i v w) :
    OwesD P ops Q G D F a0 w0 i := by
  cases hi : ops[i]? with
  | none => rw [hi] at ho; cases ho
  | some o =>
    rw [hi] at ho
    simp only [Option.map_some, Option.some.injEq] at ho
    refine owes_vD o.op o.type [j] (by rw [hi]; rfl) hg hsee (by revert ho; cases o.op <;> simp [copies, callsB]) fun vals w ρ hG hF' hρ hc hf => ?_
    refine opv_val (copies_run ho) ⟨hD _, ?_⟩
    rw [hρ t]
    unfold putL putL
    rw [hd, put_same _ _ _ hl]
    exact hF _ _ (hF' j (.head _))

/-- An operation under a guard that lets it. -/
theorem owes_vtD {i : Nat} (k : Nat) (c : Bool) (op : Op) (type : TypeId) (js : List Nat) (ho : (ops[i]?).map (fun o => (o.op, o.type)) = some (op, type)) (hg : (ops[i]?).bind (·.guard) = some (k, c)) (hk : waitsB ops i k = true) (hc : ∀ v w, F k v w → v = .bool c)
    (hsz : ((dstOf ops k).map fun d => decide (d < a0.tmps.size)) = some true) (hsee : seesB ops i js = true) (hnd : callsB op = true) {G D : World → World → Prop}
    (yes : ∀ (vals : Nat → Value) (w : World) (ρ : Operand → Value), G w0 w → (∀ j ∈ js, F j (vals j) w) → (∀ t, ρ (.tmp t) = (putL ops vals js a0).tmps.getD t undef) → (∀ c, ρ (.const c) = c) → (∀ f, ρ (.func f) = .func (.func f) #[] #[]) →
      OpV P op type ρ w fun v w' => D w w' ∧ F i v w') : OwesD P ops Q G D F a0 w0 i := by
  refine owes_vifD op type c js ho hg hk hc ?_ ?_ hsee hnd (fun _ => yes) (fun h => absurd rfl h)
  · intro d hd; rw [hd] at hsz; simpa using hsz
  · cases hd : dstOf ops k with
    | none => rw [hd] at hsz; cases hsz
    | some d => rfl
/-- An operation under a guard that does not let it. -/
theorem owes_noD (hD : ∀ w, D w w) {i : Nat} (k : Nat) (c want : Bool) (hne : c ≠ want) (hg : (ops[i]?).bind (·.guard) = some (k, want)) (hk : waitsB ops i k = true) (hc : ∀ v w, F k v w → v = .bool c)
    (hsz : ((dstOf ops k).map fun d => decide (d < a0.tmps.size)) = some true) (hF : ∀ w, F i undef w) : OwesD P ops Q G D F a0 w0 i := by
  cases hi : ops[i]? with
  | none => rw [hi] at hg; cases hg
  | some o =>
    rw [hi] at hg
    intro a w hG hd hs hF' hR
    have hy : yielded ops a.tmps k = some c := by
      have h1 := hc _ _ (hF' k hk)
      unfold valAt at h1
      unfold yielded
      cases hkd : dstOf ops k with
      | none => rw [hkd] at hsz; cases hsz
      | some d =>
        rw [hkd] at hsz h1
        have hl : d < a.tmps.size := by rw [hs]; simpa using hsz
        unfold dstOf at hkd
        rw [hkd]
        simp only [Option.bind_some] at h1 ⊢
        rw [Array.getD_eq_getD_getElem?, Array.getElem?_eq_getElem hl] at h1
        rw [Array.getElem?_eq_getElem hl]
        simp only [Option.getD_some] at h1
        rw [h1]
    unfold wpOp
    rw [hi]
    have hw : Region.wanted o (yielded ops a.tmps) = false := by
      unfold Region.wanted
      rw [show o.guard = some (k, want) from hg]
      simp only [hy]
      cases c <;> cases want <;> simp_all
    simp only [hw, Bool.false_eq_true, if_false]
    exact ⟨undef, by unfold dstOf; rw [hi]; rfl, hD _, hF _⟩

theorem owes_unD (hD : ∀ w, D w w) {i : Nat} (k : Nat) (want : Bool) (hg : (ops[i]?).bind (·.guard) = some (k, want)) (hk : waitsB ops i k = true) (hc : ∀ v w, F k v w → v = undef)
    (hsz : ((dstOf ops k).map fun d => decide (d < a0.tmps.size)) = some true) (hF : ∀ w, F i undef w) : OwesD P ops Q G D F a0 w0 i := by
  cases hi : ops[i]? with
  | none => rw [hi] at hg; cases hg
  | some o =>
    rw [hi] at hg
    intro a w hG hd hs hF' hR
    have hy : yielded ops a.tmps k = none := by
      have h1 := hc _ _ (hF' k hk)
      unfold valAt at h1
      unfold yielded
      cases hkd : dstOf ops k with
      | none => rw [hkd] at hsz; cases hsz
      | some d =>
        rw [hkd] at hsz h1
        have hl : d < a.tmps.size := by rw [hs]; simpa using hsz
        unfold dstOf at hkd
        rw [hkd]
        simp only [Option.bind_some] at h1 ⊢
        rw [Array.getD_eq_getD_getElem?, Array.getElem?_eq_getElem hl] at h1
        rw [Array.getElem?_eq_getElem hl]
        simp only [Option.getD_some] at h1
        rw [h1]
        rfl
    unfold wpOp
    rw [hi]
    have hw : Region.wanted o (yielded ops a.tmps) = false := by
      unfold Region.wanted
      rw [show o.guard = some (k, want) from hg]
      simp only [hy]
      cases want <;> rfl
    simp only [hw, Bool.false_eq_true, if_false]
    exact ⟨undef, by unfold dstOf; rw [hi]; rfl, hD _, hF _⟩

/-- An operation with a slot of its own. -/
theorem OwesG.mk {i : Nat} (hs0 : src i = i) (hsw : ∀ j, waitsB ops i j = true → src j = j) (h : OwesD P ops Q G D F a0 w0 i) : OwesG P ops Q G D F src a0 w0 i := by
  intro a w hG hd hs hF hR
  refine wpOp_mono ?_ (h a w hG hd hs (fun j hj => hF j hj (hsw j hj)) hR)
  rintro a' w' ⟨v, e, hg, hf⟩
  exact ⟨v, e, hg, by rw [if_pos hs0]; exact hf⟩
/-- An operation without a slot, whose fact is of what another has left. -/
theorem OwesG.store {i : Nat} {o : Oper} (js : List Nat) (ho : ops[i]? = some o) (hg : o.guard = none) (hdn : o.dst = none) (hs0 : src i ≠ i) (hmem : src i ∈ js) (hjs : ∀ j ∈ js, src j = j) (hsee : seesB ops i js = true)
    (hnd : match o.op with | .defer _ => False | .select .. => False | _ => True)
    (h : ∀ (vals : Nat → Value) (w : World), G w0 w → (∀ j ∈ js, F j (vals j) w) → ∀ K : Act → World → Prop, (∀ v w', D w w' → F i (vals (src i)) w' → K ((putL ops vals js a0).put o.dst v) w') →
      Oper.wp P o (putL ops vals js a0) w K NoQ) : OwesG P ops Q G D F src a0 w0 i := by
  intro a w hG hd hs hF hR
  unfold wpOp
  rw [ho]
  simp only [Region.wanted, hg, if_true]
  left
  have hsee' : (js.all (fun j => waitsB ops i j) = true) ∧ ∀ t ∈ (o.op.operands.toList.filterMap fun | .tmp t => some t | _ => none), js.any (fun j => dstOf ops j == some t) = true ∨ (List.range ops.size).all (fun j => dstOf ops j != some t || waitsB ops j i) = true := by
    unfold seesB at hsee
    rw [ho] at hsee
    simp only [Bool.and_eq_true, List.all_eq_true, Bool.or_eq_true] at hsee
    refine ⟨by rw [List.all_eq_true]; exact hsee.1, fun t ht => ?_⟩
    rcases hsee.2 t ht with h | h
    · exact .inl h
    · right; rw [List.all_eq_true]; simpa using h
  have hjs2 : ∀ j ∈ js, waitsB ops i j = true := List.all_eq_true.1 hsee'.1
  have ht : ∀ t ∈ (o.op.operands.toList.filterMap fun | .tmp t => some t | _ => none), a0.tmps.getD t undef = a.tmps.getD t undef ∨ ∃ j ∈ js, dstOf ops j = some t := by
    intro t ht
    rcases hsee'.2 t ht with h | h
    · right
      rw [List.any_eq_true] at h
      obtain ⟨j, hj, e⟩ := h
      exact ⟨j, hj, by simpa using e⟩
    · left
      refine (hR t fun j hj => ?_).symm
      rw [List.all_eq_true] at h
      have hlt : j < ops.size := by
        rcases Nat.lt_or_ge j ops.size with hl | hl
        · exact hl
        · unfold dstOf at hj; rw [Array.getElem?_eq_none hl] at hj; cases hj
      have := h j (List.mem_range.2 hlt)
      simpa [hj] using this
  have he : execOp (putL ops (valAt ops a) js a0).eval o = execOp a.eval o := by
    refine execOp_congr o (fun cs b e => by rw [e] at hnd; exact hnd) fun x hx => ?_
    cases x with
    | tmp t =>
      show (putL ops (valAt ops a) js a0).tmps.getD t undef = a.tmps.getD t undef
      exact putL_at a t js a0 hs.symm (ht t (List.mem_filterMap.2 ⟨.tmp t, by simpa using hx, rfl⟩))
    | _ => rfl
  have hsz : a.tmps.size = (putL ops (valAt ops a) js a0).tmps.size := by rw [putL_size, hs]
  have hdo : dstOf ops i = o.dst := by unfold dstOf; rw [ho]; rfl
  rw [hdo]
  refine wp_same (K1 := fun A' w' => ∃ v, A' = (putL ops (valAt ops a) js a0).put o.dst v ∧ D w w' ∧ F i (valAt ops a (src i)) w') he hsz hnd ?_ ?_
  · exact h (valAt ops a) w hG (fun j hj => hF j (hjs2 j hj) (hjs j hj)) _ (fun v w' g f => ⟨v, rfl, v, rfl, g, f⟩)
  · rintro v w' ⟨v', e, g, f⟩
    exact ⟨v', put_eq e hsz, g, by rw [if_neg hs0]; exact f⟩

theorem region_factsG {id : Nat} {DD : Nat → World → World → Prop} (hm : P.follows .mixedOrders = true) (hrefl : G w0 w0.drew) (htrans : ∀ i, i < ops.size → ∀ a b, G w0 a → DD i a b → G w0 b) (hmono : ∀ i j, i < ops.size → j < ops.size → i ≠ j → ∀ v a b, F j v a → DD i a b → F j v b)
    (hreg : regGB ops a0.tmps.size = true) (hsrc : srcB ops src = true) (howes : ∀ i, i < ops.size → OwesG P ops Q G (DD i) F src a0 w0 i)
    (fin : ∀ (vals : Nat → Value) (w : World), G w0 w → (∀ j, j < ops.size → F j (vals (src j)) w) → Q .normal (putL ops vals (List.range ops.size) a0) w) :
    (Code.region id ops true).wp P Q a0 w0 := by
  have main : ∀ (fuel : Nat) (listed : Array Bool) (a : Act) (w : World), listed.size = ops.size →
      ((List.range ops.size).filter fun j => !listed.getD j true).length ≤ fuel →
      G w0 w → a.defers = a0.defers → a.tmps.size = a0.tmps.size →
      (∀ j, j < ops.size → listed.getD j true = true → F j (valAt ops a (src j)) w) →
      (∀ t, (∀ j, j < ops.size → listed.getD j true = true → dstOf ops j ≠ some t) → a.tmps.getD t undef = a0.tmps.getD t undef) →
      (∀ j, j < ops.size → listed.getD j true = true → ∀ k, waitsB ops j k = true → listed.getD k false = true) →
      wpAny P .any ops Q fuel listed a w := by
    intro fuel
    -- where nothing may come up all has come up
    have allUp : ∀ (listed : Array Bool), listed.size = ops.size → Region.ready .any ops listed = [] → ∀ j, j < ops.size → listed.getD j true = true := by
      intro listed hsz hr j
      induction j using Nat.strongRecOn with
      | ind j ih =>
        intro hj
        cases hl : listed.getD j true with
        | true => rfl
        | false =>
          exfalso
          obtain ⟨o, ho, _, he⟩ := regGB_at hreg hj
          have : j ∈ Region.ready .any ops listed := mem_ready.2 ⟨hl, o, ho, fun e hem hb => by
            have hlt := he e hem hb
            have := ih e.on hlt (by omega)
            rw [Array.getD_eq_getD_getElem?] at this ⊢
            rw [Array.getElem?_eq_getElem (by omega)] at this ⊢
            exact this⟩
          rw [hr] at this
          cases this
    have done : ∀ (listed : Array Bool) (a : Act) (w : World), (∀ j, j < ops.size → listed.getD j true = true) → G w0 w → a.defers = a0.defers → a.tmps.size = a0.tmps.size →
        (∀ j, j < ops.size → listed.getD j true = true → F j (valAt ops a (src j)) w) →
        (∀ t, (∀ j, j < ops.size → listed.getD j true = true → dstOf ops j ≠ some t) → a.tmps.getD t undef = a0.tmps.getD t undef) → Q .normal a w := by
      intro listed a w hall hG hd hs hF hR
      have := fin (valAt ops a) w hG (fun j hj => hF j hj (hall j hj))
      rw [putL_whole a (List.range ops.size) a0 hs.symm hd.symm] at this
      · exact this
      · intro t
        by_cases e : ∃ j, j < ops.size ∧ dstOf ops j = some t
        · obtain ⟨j, hj, hjd⟩ := e
          exact .inr ⟨j, List.mem_range.2 hj, hjd⟩
        · left
          exact (hR t fun j hj _ he => e ⟨j, hj, he⟩).symm
    induction fuel with
    | zero =>
      intro listed a w hsz hcnt hG hd hs hF hR hC
      have hall : ∀ j, j < ops.size → listed.getD j true = true := by
        intro j hj
        cases hl : listed.getD j true with
        | true => rfl
        | false =>
          have : j ∈ (List.range ops.size).filter fun j => !listed.getD j true := List.mem_filter.2 ⟨List.mem_range.2 hj, by simp only [hl]; rfl⟩
          rw [List.eq_nil_of_length_eq_zero (Nat.le_zero.1 hcnt)] at this
          cases this
      refine ⟨?_, done listed a w hall hG hd hs hF hR⟩
      apply List.eq_nil_iff_forall_not_mem.2
      intro j hj
      obtain ⟨h1, o, ho, _⟩ := mem_ready.1 hj
      have hlt : j < ops.size := (Array.getElem?_eq_some_iff.1 ho).1
      rw [hall j hlt] at h1
      cases h1
    | succ fuel ih =>
      intro listed a w hsz hcnt hG hd hs hF hR hC
      refine ⟨fun hr => done listed a w (allUp listed hsz hr) hG hd hs hF hR, fun i hi => ?_⟩
      obtain ⟨hun, o, ho, hall⟩ := mem_ready.1 hi
      have hlt : i < ops.size := (Array.getElem?_eq_some_iff.1 ho).1
      have hlz : i < listed.size := by omega
      have hw : ∀ j, waitsB ops i j = true → j < ops.size ∧ listed.getD j true = true := by
        intro j hj
        obtain ⟨o', ho', e, he, hb, rfl⟩ := waits_some hj
        rw [ho] at ho'
        injection ho' with ho'
        subst ho'
        have h1 := hall e he hb
        rw [Array.getD_eq_getD_getElem?] at h1
        rcases Nat.lt_or_ge e.on listed.size with hl | hl
        · refine ⟨by omega, ?_⟩
          rw [Array.getD_eq_getD_getElem?]
          rw [Array.getElem?_eq_getElem hl] at h1 ⊢
          exact h1
        · rw [Array.getElem?_eq_none hl] at h1; cases h1
      have hstep := howes i hlt a w hG hd hs (fun j hj hsj => by have h1 := hF j (hw j hj).1 (hw j hj).2; rw [hsj] at h1; exact h1) (fun t ht => hR t fun j hj hl he => by
        have h1 := hC j hj hl i (ht j he)
        rw [Array.getD_eq_getD_getElem?, Array.getElem?_eq_getElem hlz] at h1 hun
        simp only [Option.getD_some] at h1 hun
        rw [h1] at hun; cases hun)
      refine wpOp_mono ?_ hstep
      rintro a' w' ⟨v, rfl, hg, hf⟩
      have hset : ∀ j b, (listed.setIfInBounds i true).getD j b = if j = i then true else listed.getD j b := by
        intro j b
        rw [Array.getD_eq_getD_getElem?, Array.getD_eq_getD_getElem?, Array.getElem?_setIfInBounds]
        by_cases e : i = j
        · subst e; simp [hlz]
        · rw [if_neg e, if_neg (fun h => e h.symm)]
      obtain ⟨o2, ho2, hd2, _⟩ := regGB_at hreg hlt
      have hdo : dstOf ops i = o2.dst := by unfold dstOf; rw [ho2]; rfl
      have hput : ∀ k, k < ops.size → k ≠ i → valAt ops (a.put (dstOf ops i) v) k = valAt ops a k := by
        intro k hk hne
        unfold valAt
        cases hkd : dstOf ops k with
        | none => rfl
        | some dk =>
          simp only
          refine put_other _ _ _ _ fun h => ?_
          exact (hd2 dk (by rw [← hdo]; exact h)).2 k hk hne hkd
      have hsr : ∀ k, k < ops.size → (src k = k ∧ (dstOf ops k).isSome = true) ∨ (dstOf ops k = none ∧ waitsB ops k (src k) = true ∧ (dstOf ops (src k)).isSome = true) := by
        intro k hk
        unfold srcB at hsrc
        rw [List.all_eq_true] at hsrc
        have := hsrc k (List.mem_range.2 hk)
        simp only [Bool.or_eq_true, Bool.and_eq_true, beq_iff_eq, Option.isNone_iff_eq_none] at this
        rcases this with h | h
        · exact .inl h
        · exact .inr ⟨h.1.1, h.1.2, h.2⟩
      refine ih (listed.setIfInBounds i true) (a.put (dstOf ops i) v) w' (by simp [hsz]) ?_ (htrans i hlt _ _ hG hg) (by rw [← hd]; cases dstOf ops i <;> rfl) (by rw [put_size, hs]) ?_ ?_ ?_
      · have := filter_less (p := fun j => !listed.getD j true) (q := fun j => !(listed.setIfInBounds i true).getD j true) (i := i) (l := List.range ops.size) (fun x hx => by
          rw [hset] at hx
          by_cases e : x = i
          · rw [if_pos e] at hx; cases hx
          · rw [if_neg e] at hx; exact hx) (List.mem_range.2 hlt) (by rw [hun]; rfl) (by rw [hset, if_pos rfl]; rfl)
        omega
      · intro j hj hl
        by_cases e : j = i
        · subst e
          rcases hsr j hj with ⟨h1, h2⟩ | ⟨h1, h2, h3⟩
          · rw [if_pos h1] at hf
            rw [h1]
            obtain ⟨d, hdj⟩ := Option.isSome_iff_exists.1 h2
            have h3 : valAt ops (a.put (dstOf ops j) v) j = v := by
              unfold valAt
              rw [hdj]
              simp only
              exact put_same _ _ _ (by rw [hs]; exact (hd2 d (by rw [← hdo]; exact hdj)).1)
            rw [h3]
            exact hf
          · have hne : src j ≠ j := fun e => by rw [e, h1] at h3; cases h3
            rw [if_neg hne] at hf
            rw [hput _ (hw _ h2).1 hne]
            exact hf
        · rw [hset, if_neg e] at hl
          have h1 := hmono i j hlt hj (fun h => e h.symm) _ _ _ (hF j hj hl) hg
          have hne : src j ≠ i ∧ src j < ops.size := by
            rcases hsr j hj with ⟨h2, _⟩ | ⟨_, h2, h3⟩
            · rw [h2]; exact ⟨e, hj⟩
            · constructor
              · intro h
                have h4 := hC j hj hl _ h2
                rw [h, Array.getD_eq_getD_getElem?, Array.getElem?_eq_getElem hlz] at h4
                rw [Array.getD_eq_getD_getElem?, Array.getElem?_eq_getElem hlz] at hun
                simp only [Option.getD_some] at h4 hun
                rw [h4] at hun; cases hun
              · rcases Nat.lt_or_ge (src j) ops.size with h | h
                · exact h
                · unfold dstOf at h3; rw [Array.getElem?_eq_none h] at h3; cases h3
          rw [hput _ hne.2 hne.1]
          exact h1
      · intro t ht
        have h1 : dstOf ops i ≠ some t := fun h => ht i hlt (by rw [hset, if_pos rfl]) h
        rw [put_other _ _ _ _ h1]
        exact hR t fun j hj hl => ht j hj (by rw [hset]; split <;> simp_all)
      · intro j hj hl k hk
        rw [hset]
        by_cases e : k = i
        · rw [if_pos e]
        · rw [if_neg e]
          by_cases e2 : j = i
          · subst e2
            have h1 := (hw k hk)
            have h2 : k < listed.size := by omega
            have h3 := h1.2
            rw [Array.getD_eq_getD_getElem?, Array.getElem?_eq_getElem h2] at h3 ⊢
            exact h3
          · rw [hset, if_neg e2] at hl
            exact hC j hj hl k hk
  refine wp_region_any hm ?_
  refine main ops.size (Array.replicate ops.size false) a0 w0.drew (by simp) ?_ hrefl rfl rfl ?_ ?_ ?_
  · exact Nat.le_trans (List.length_filter_le _ _) (by simp)
  · intro j hj hl
    rw [Array.getD_eq_getD_getElem?, Array.getElem?_eq_getElem (by simpa using hj)] at hl
    simp at hl
  · intro t _; rfl
  · intro j hj hl
    rw [Array.getD_eq_getD_getElem?, Array.getElem?_eq_getElem (by simpa using hj)] at hl
    simp at hl
def putO (vals : Nat → Value) : List (Option Tmp) → Nat → Act → Act
  | [], _, a => a
  | d :: ds, k, a => putO vals ds (k + 1) (a.put d (vals k))
theorem putO_eq {ops : Array Oper} (vals : Nat → Value) : ∀ (ds : List (Option Tmp)) (n k : Nat) (a : Act), (List.range' k n).map (dstOf ops) = ds → putL ops vals (List.range' k n) a = putO vals ds k a
  | [], n, k, a, h => by
    have : n = 0 := by simpa using congrArg List.length h
    subst this; rfl
  | d :: ds, 0, k, a, h => by simp at h
  | d :: ds, n + 1, k, a, h => by
    rw [List.range'_succ, List.map_cons] at h
    injection h with h1 h2
    rw [List.range'_succ]
    unfold putL putO
    rw [h1]
    exact putO_eq vals ds n (k + 1) _ h2
def relOf (sts : List (Nat × (World → World → Prop))) (i : Nat) : World → World → Prop := match sts.find? (fun p => p.1 == i) with
  | some p => p.2
  | none => Gw
def srcOf (ss : List (Nat × Nat)) (i : Nat) : Nat := match ss.find? (fun p => p.1 == i) with
  | some p => p.2
  | none => i
theorem region_byG {id : Nat} (Fs : List (Value → World → Prop)) (sts : List (Nat × (World → World → Prop))) (ss : List (Nat × Nat)) (ds : List (Option Tmp))
    (hm : P.follows .mixedOrders = true)
    (hreg : regGB ops a0.tmps.size = true) (hsrc : srcB ops (srcOf ss) = true) (hds : (List.range' 0 ops.size).map (dstOf ops) = ds)
    (hpure : ∀ f ∈ Fs, ∀ v a b, f v a → Gw a b → f v b)
    (hst : ∀ p ∈ sts, (∀ a b, Below w0.heap.size w0 a → p.2 a b → Below w0.heap.size w0 b) ∧ ∀ f ∈ Fs.eraseIdx p.1, ∀ v a b, f v a → p.2 a b → f v b)
    (howes : AllN (fun i => OwesG P ops Q (fun w w' => Below w.heap.size w w') (relOf sts i) (fun j => Fs.getD j fun _ _ => True) (srcOf ss) a0 w0 i) ops.size 0)
    (fin : ∀ (vals : Nat → Value) (w : World), Below w0.heap.size w0 w → (∀ j, j < ops.size → (Fs.getD j fun _ _ => True) (vals (srcOf ss j)) w) → Q .normal (putO vals ds 0 a0) w) :
    (Code.region id ops true).wp P Q a0 w0 := by
  have hrel : ∀ i, relOf sts i = Gw ∨ ∃ p ∈ sts, p.1 = i ∧ relOf sts i = p.2 := by
    intro i
    unfold relOf
    cases h : sts.find? (fun p => p.1 == i) with
    | none => exact .inl rfl
    | some p => exact .inr ⟨p, List.mem_of_find?_eq_some h, by have := List.find?_some h; simpa using this, rfl⟩
  refine region_factsG (G := fun w w' => Below w.heap.size w w') (DD := relOf sts) (src := srcOf ss) hm (Gw.drew _) ?_ ?_ hreg hsrc (fun i hi => howes.at_ _ _ i (by omega) (by omega)) ?_
  · intro i _ a b hG hD
    rcases hrel i with h | ⟨p, hp, _, h⟩
    · rw [h] at hD; exact hG.trans (Below.mono hD hG.size)
    · rw [h] at hD; exact (hst p hp).1 a b hG hD
  · intro i j _ _ hne v a b h g
    rw [List.getD_eq_getElem?_getD] at h ⊢
    cases hj : Fs[j]? with
    | none => exact trivial
    | some f =>
      rw [hj] at h
      rcases hrel i with hr | ⟨p, hp, e, hr⟩
      · rw [hr] at g; exact hpure f (List.mem_of_getElem? hj) v a b h g
      · rw [hr] at g
        refine (hst p hp).2 f ?_ v a b h g
        rw [e]
        refine List.mem_eraseIdx_iff_getElem?.2 ⟨j, fun h => hne h.symm, hj⟩
  · intro vals w hG hF
    rw [List.range_eq_range', putO_eq vals ds ops.size 0 a0 hds]
    exact fin vals w hG hF
end
end Go.Proofs.YtfodefgihicafaaDoor
/- Stores into boxes that a region makes: the facts, and what such a store owes. No conditions. -/
namespace Go.Proofs.YtfodefgihicafaaDoor
set_option linter.unusedVariables false
set_option linter.unusedSimpArgs false
open Go.RowKit Go.Maps
/-- A box of n cells of type T, made since B. -/
def BoxV (T : TypeId) (n B : Nat) (v : Value) (w : World) : Prop := ∃ k cs, v = .pointer (some ⟨k, 0, none⟩) ∧ B ≤ k ∧ cs.size = n ∧ Bk w k T cs
/-- A box that holds cs. -/
def BoxC (T : TypeId) (cs : Array Value) (B : Nat) (v : Value) (w : World) : Prop := ∃ k, v = .pointer (some ⟨k, 0, none⟩) ∧ B ≤ k ∧ Bk w k T cs
/-- A store into a box of n cells of type T, made since B. -/
def StD (T : TypeId) (n B : Nat) (a b : World) : Prop := ∃ k cs cs', B ≤ k ∧ cs.size = n ∧ cs'.size = n ∧ Bk a k T cs ∧ Bk b k T cs' ∧ Kept (fun c => c = k) a b
theorem grow_below {w : World} {B g : Nat} (hB : B ≤ g) (cs : Array Value) : Below B w (w.setRow g cs) :=
  ⟨rfl, rfl, rfl, by simp, fun k hk => setRow_other w g k cs (by omega)⟩
section
variable {T T' : TypeId} {n n' B B' : Nat} {cs : Array Value} {v c : Value} {a b : World}
theorem BoxV.mono (h : BoxV T n B v a) (g : Gw a b) : BoxV T n B v b := by
  obtain ⟨k, cs, e, h1, h2, h3⟩ := h
  exact ⟨k, cs, e, h1, h2, h3.below g h3.lt⟩
theorem BoxC.mono (h : BoxC T cs B v a) (g : Gw a b) : BoxC T cs B v b := by
  obtain ⟨k, e, h1, h3⟩ := h
  exact ⟨k, e, h1, h3.below g h3.lt⟩
theorem StD.below {B0 : Nat} {w0 : World} (hB : B0 ≤ B) (h : Below B0 w0 a) (hs : B0 ≤ a.heap.size) (g : StD T n B a b) : Below B0 w0 b := by
  obtain ⟨k, _, _, h1, _, _, _, _, h2⟩ := g
  exact h.trans (h2.below hs (fun c e => by omega))
theorem IsV.st (h : IsV c v a) (_ : StD T n B a b) : IsV c v b := h
theorem bk_type {w : World} {k : Nat} {E F : TypeId} {x y : Array Value} (h1 : Bk w k E x) (h2 : Bk w k F y) : E = F ∧ x = y := by
  unfold Bk at h1 h2
  rw [h1] at h2
  injection h2 with h2
  injection h2 with h2 h3 _
  exact ⟨h3, h2⟩
theorem BoxV.st (h : BoxV T' n' B' v a) (g : StD T n B a b) : BoxV T' n' B' v b := by
  obtain ⟨k, x, e, h1, h2, h3⟩ := h
  obtain ⟨k', y, y', _, g2, g3, g4, g5, g6⟩ := g
  by_cases hk : k = k'
  · subst hk
    obtain ⟨e1, e2⟩ := bk_type h3 g4
    subst e1
    exact ⟨k, y', e, h1, by rw [g3, ← g2, ← e2, h2], g5⟩
  · exact ⟨k, x, e, h1, h2, g6.bk h3 hk⟩
theorem BoxC.st (hT : T' ≠ T) (h : BoxC T' cs B' v a) (g : StD T n B a b) : BoxC T' cs B' v b := by
  obtain ⟨k, e, h1, h3⟩ := h
  obtain ⟨k', y, y', _, g2, g3, g4, g5, g6⟩ := g
  refine ⟨k, e, h1, g6.bk h3 fun hk => ?_⟩
  subst hk
  exact hT (bk_type h3 g4).1
end
def LQ (K : Act → World → Prop) : Exit → Act → World → Prop
  | .normal, a, w => K a w
  | _, _, _ => False
theorem wp_of_list {P : Program} {o : Oper} {a : Act} {w : World} {K : Act → World → Prop} (hg : o.guard = none) (h : wpList P #[o] (LQ K) [o] a w) : Oper.wp P o a w K NoQ := by
  unfold wpList at h
  simp only [Region.wanted, hg, if_true] at h
  rcases h with h | ⟨_, h2⟩
  · unfold Oper.wp at h ⊢
    generalize (execOp a.eval o).run P w = r at *
    cases r with
    | ok n w' =>
      cases n <;> simp only [Oper.upon, wpList] at h ⊢
      case value u => exact h
      case skip => exact h
      case defer u => exact h
      case enter f args =>
        refine Calls.mono h fun e w'' he => ?_
        cases e with
        | returned u => exact he
        | panicked c => exact he.elim
        | outgrown => obtain ⟨_, _, hf⟩ := he; exact hf.elim
      case row row args => exact h
    | halt x w' =>
      cases x <;> simp only [Oper.upon] at h ⊢
      case panic u => exact h.elim
  · obtain ⟨_, _, h3⟩ := h2
    exact h3.elim
section
variable {P : Program} {ops : Array Oper} {Q : Exit → Act → World → Prop} {G : World → World → Prop} {F : Nat → Value → World → Prop} {a0 : Act} {w0 : World} {src : Nat → Nat}
theorem OwesG.mk2 {i : Nat} {D : World → World → Prop} {F' : Nat → Value → World → Prop} (hs0 : src i = i) (hF' : ∀ j v w, (src j = j → F j v w) → F' j v w) (hFi : ∀ v w, F' i v w → F i v w) (h : OwesD P ops Q G D F' a0 w0 i) : OwesG P ops Q G D F src a0 w0 i := by
  intro a w hG hd hs hF hR
  refine wpOp_mono ?_ (h a w hG hd hs (fun j hj => hF' j _ _ (hF j hj)) hR)
  rintro a' w' ⟨v, e, hg, hf⟩
  exact ⟨v, e, hg, by rw [if_pos hs0]; exact hFi _ _ hf⟩
theorem owes_box {i jp jv : Nat} {tp tv : Tmp} {T : TypeId} {n B : Nat} {cs : Array Value} {type : TypeId} (ho : (ops[i]?).map (fun o => (o.op, o.type)) = some (.store T (.tmp tp) (.tmp tv), type)) (hg : (ops[i]?).bind (·.guard) = none) (hdn : dstOf ops i = none)
    (hsee : seesB ops i [jp, jv] = true) (hsp : slotB ops [jp, jv] jp tp = true) (hsv : slotB ops [jp, jv] jv tv = true) (hlp : tp < a0.tmps.size) (hlv : tv < a0.tmps.size) (hs0 : src i ≠ i) (hsi : src i = jp) (h1 : src jp = jp) (h2 : src jv = jv)
    (hi : (P.info? T).map (·.size) = some cs.size) (hn : cs.size = n) (h1c : cs.all (·.oneCell') = true)
    (hFp : ∀ v w, F jp v w → BoxV T n B v w) (hFv : ∀ v w, F jv v w → v = .agg cs) (hFi : ∀ v w, BoxC T cs B v w → F i v w) : OwesG P ops Q G (StD T n B) F src a0 w0 i := by
  obtain ⟨o, e1, e2, e3⟩ := isOp_mk ho
  rw [e1] at hg
  have hd2 : o.dst = none := by unfold dstOf at hdn; rw [e1] at hdn; exact hdn
  refine OwesG.store [jp, jv] e1 hg hd2 hs0 (by rw [hsi]; exact .head _) ?_ hsee (by rw [e2]; trivial) fun vals w hG hF K hK => ?_
  · intro j hj
    simp only [List.mem_cons, List.not_mem_nil, or_false] at hj
    rcases hj with rfl | rfl
    · exact h1
    · exact h2
  · obtain ⟨k, old, ev, hB, hold, hbk⟩ := hFp _ _ (hF jp (by simp))
    have ec := hFv _ _ (hF jv (by simp))
    refine wp_of_list hg ?_
    refine wpList_store_row (rest := []) hg T (.tmp tp) (.tmp tv) e2 k cs ?_ ?_ T old hbk hi (by rw [hold, hn]) h1c ?_
    · show (putL ops vals [jp, jv] a0).tmps.getD tp undef = _
      rw [slotJ [jp, jv] hlp hsp, ev]
    · show (putL ops vals [jp, jv] a0).tmps.getD tv undef = _
      rw [slotJ [jp, jv] hlv hsv, ec]
    · show LQ K .normal _ _
      have hnew := setRow_heap w k old cs T (0, 0) hbk
      refine hK _ _ ⟨k, old, cs, hB, hold, hn, hbk, hnew, ?_⟩ ?_
      · exact ⟨(grow_below (Nat.le_refl _) cs).os, (grow_below (Nat.le_refl _) cs).tape, (grow_below (Nat.le_refl _) cs).output, (grow_below (Nat.le_refl _) cs).size, fun c _ hc => setRow_other w k c cs hc⟩
      · rw [hsi, ev]
        exact hFi _ _ ⟨k, rfl, hB, hnew⟩
end
end Go.Proofs.YtfodefgihicafaaDoor
