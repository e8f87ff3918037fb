/- What rec.Encode answers. Conditions: lengths. -/
import Derived.Test.YtoigahkgdanjnaaRecA
namespace Go.Proofs.Ytoigahkgdanjnaa
set_option linter.unusedVariables false
set_option linter.unusedSimpArgs false
open Go.RowKit
set_option maxRecDepth 100000
set_option maxHeartbeats 400000
def rawL (xs : List (BitVec 8)) : List (BitVec 8) := uintL (BitVec.ofNat 64 xs.length) ++ xs
def bodyL (k : Nat) (tx : BitVec 64) (sp no : Nat) (d : List (BitVec 8)) : List (BitVec 8) :=
  (if k = 1 then ((uintL (BitVec.ofNat 64 k) ++ uintL tx) ++ uintL (BitVec.ofNat 64 sp)) ++ uintL (BitVec.ofNat 64 no) else uintL (BitVec.ofNat 64 k) ++ uintL tx) ++ rawL d
def encRL (k : Nat) (tx : BitVec 64) (sp no : Nat) (d : List (BitVec 8)) : List (BitVec 8) := rawL (sealC (bodyL k tx sp no d))
/-- A writer in block g of the bytes bs; an empty one in block h; all at B or above. -/
def TwoS (W : World) (B g h : Nat) (bs : List (BitVec 8)) : Prop := ∃ v, EncAt W B g v bs ∧ Bk W h 51 #[.slice none 0 0] ∧ h ≠ g ∧ v.ownBlock ≠ some h ∧ B ≤ h
theorem TwoS.below {W W' : World} {B g h : Nat} {bs : List (BitVec 8)} (p : TwoS W B g h bs) (hb : Below W.heap.size W W') : TwoS W' B g h bs := by
  obtain ⟨v, h1, h2, h3, h4, h5⟩ := p
  exact ⟨v, ⟨h1.blk.below hb h1.blk.lt, h1.ge, h1.row.below hb, h1.ne⟩, h2.below hb h2.lt, h3, h4, h5⟩
theorem TwoS.step {W W' : World} {B g h : Nat} {v : Value} {bs bs' : List (BitVec 8)} {e : Ending} (h1 : EncAt W B g v bs) (h2 : Bk W h 51 #[.slice none 0 0]) (h3 : h ≠ g) (h4 : v.ownBlock ≠ some h) (h5 : B ≤ h) (k : EncP B g v bs' W e W') : e = .returned (.tuple #[]) ∧ TwoS W' B g h bs' ∧ Below B W W' := by
  obtain ⟨e1, v', k1, k2⟩ := k
  refine ⟨e1, ⟨v', k1, (k2.block h h2.lt h3 h4).trans h2, h3, ?_, h5⟩, k2.below h1⟩
  rcases k2.own with e | e
  · rw [e]; exact h4
  · intro e2
    have := e h e2
    have := h2.lt
    omega
theorem TwoS.uint {W : World} {B g h : Nat} {bs : List (BitVec 8)} (x : BitVec 64) (p : TwoS W B g h bs) (hl : bs.length ≤ 1073741824) :
    Calls Try.prog 16 #[.pointer (some ⟨g, 0, none⟩), .int .u64 (U64 x)] W fun e W' => e = .returned (.tuple #[]) ∧ TwoS W' B g h (bs ++ uintL x) ∧ Below B W W' := by
  obtain ⟨v, h1, h2, h3, h4, h5⟩ := p
  exact (enc_uint W B g v bs x h1 hl).mono fun _ _ k => TwoS.step h1 h2 h3 h4 h5 k
theorem TwoS.nat {W : World} {B g h : Nat} {bs : List (BitVec 8)} (n : Nat) (hn : n < 2 ^ 64) (p : TwoS W B g h bs) (hl : bs.length ≤ 1073741824) :
    Calls Try.prog 16 #[.pointer (some ⟨g, 0, none⟩), .int .u64 n] W fun e W' => e = .returned (.tuple #[]) ∧ TwoS W' B g h (bs ++ uintL (BitVec.ofNat 64 n)) ∧ Below B W W' := by
  have k := p.uint (BitVec.ofNat 64 n) hl
  rw [U64_nat n hn] at k
  exact k
theorem TwoS.raw {W : World} {B g h : Nat} {bs : List (BitVec 8)} (A : Option Addr) (c : Nat) (xs : List (BitVec 8)) (p : TwoS W B g h bs) (hr : Rd b8 W B A xs) (hl : bs.length ≤ 536870912) (hx : xs.length ≤ 536870912) :
    Calls Try.prog 17 #[.pointer (some ⟨g, 0, none⟩), .slice A xs.length c] W fun e W' => e = .returned (.tuple #[]) ∧ TwoS W' B g h (bs ++ rawL xs) ∧ Below B W W' := by
  obtain ⟨v, h1, h2, h3, h4, h5⟩ := p
  refine (enc_raw W B g v bs A c xs h1 (hr.more (Nat.le_trans h1.ge (Nat.le_of_lt h1.blk.lt))) ?_ hl hx).mono fun _ _ k => TwoS.step h1 h2 h3 h4 h5 k
  intro hp a e
  obtain ⟨ad, e2, hb, _⟩ := hr.addr hp
  rw [e] at e2
  injection e2 with e2
  subst e2
  exact ⟨fun e3 => by have := h1.ge; omega, fun e3 => by have := (h1.row.lt _ e3).1; omega⟩
theorem TwoS.bytes {W : World} {B g h : Nat} {bs : List (BitVec 8)} (p : TwoS W B g h bs) (hl : bs.length ≤ 1073741824) : Calls Try.prog 19 #[.pointer (some ⟨g, 0, none⟩)] W (CloneP bs W) := by
  obtain ⟨v, h1, _⟩ := p
  obtain ⟨A, c, e, hc⟩ := h1.row.form
  subst e
  exact enc_bytes W g bs ⟨A, c, h1.blk, h1.row.rd⟩ hl
theorem TwoS.out {W : World} {B g h : Nat} {bs xs : List (BitVec 8)} (A : Option Addr) (c : Nat) (p : TwoS W B g h bs) (hr : Rd b8 W W.heap.size A xs) (ha : ∀ a, A = some a → a.block ≠ h) (hx : xs.length ≤ 536870912) :
    Calls Try.prog 17 #[.pointer (some ⟨h, 0, none⟩), .slice A xs.length c] W fun e W' => e = .returned (.tuple #[]) ∧ (∃ v, EncAt W' B h v (rawL xs)) ∧ Below B W W' := by
  obtain ⟨v, h1, h2, h3, h4, h5⟩ := p
  have he : EncAt W B h (.slice none 0 0) [] := ⟨h2, h5, Ow.nil_ _ _ _ _, by intro e; cases e⟩
  refine (enc_raw W B h (.slice none 0 0) [] A c xs he hr (fun _ a e => ⟨ha a e, by intro e; cases e⟩) (by simp) hx).mono ?_
  rintro e W' ⟨e1, v', k1, k2⟩
  exact ⟨e1, ⟨v', k1⟩, k2.below he⟩
theorem rawL_len (xs : List (BitVec 8)) : (rawL xs).length ≤ 10 + xs.length := by
  have := uintF_len 9 (BitVec.ofNat 64 xs.length)
  unfold rawL uintL
  rw [List.length_append]
  omega
theorem bodyL_len (k : Nat) (tx : BitVec 64) (sp no : Nat) (d : List (BitVec 8)) : (bodyL k tx sp no d).length ≤ 50 + d.length := by
  have h1 := uintF_len 9 (BitVec.ofNat 64 k)
  have h2 := uintF_len 9 tx
  have h3 := uintF_len 9 (BitVec.ofNat 64 sp)
  have h4 := uintF_len 9 (BitVec.ofNat 64 no)
  have h5 := rawL_len d
  unfold bodyL uintL
  split <;> simp only [List.length_append] <;> omega
theorem sealC_len (xs : List (BitVec 8)) : (sealC xs).length = xs.length + 4 := by unfold sealC; simp [tailL]
theorem encRL_len (k : Nat) (tx : BitVec 64) (sp no : Nat) (d : List (BitVec 8)) : (encRL k tx sp no d).length ≤ 64 + d.length := by
  have h1 := bodyL_len k tx sp no d
  have h2 := rawL_len (sealC (bodyL k tx sp no d))
  rw [sealC_len] at h2
  unfold encRL
  omega
theorem Bk.five {W : World} {g : Nat} {E : TypeId} {a b c d e : Value} (h : Bk W g E #[a, b, c, d, e]) : W.cell? ⟨g, 0, none⟩ = some a ∧ W.cell? ⟨g, 1, none⟩ = some b ∧ W.cell? ⟨g, 2, none⟩ = some c ∧ W.cell? ⟨g, 3, none⟩ = some d ∧ W.cell? ⟨g, 4, none⟩ = some e := ⟨h.cell 0, h.cell 1, h.cell 2, h.cell 3, h.cell 4⟩
/-- What was below a block, and that block, stay. -/
theorem keepB {w W W' : World} {E : TypeId} {cs : Array Value} (h : Below w.heap.size w W ∧ Bk W w.heap.size E cs) (hb : Below (w.heap.size + 1) W W') : Below w.heap.size w W' ∧ Bk W' w.heap.size E cs := ⟨h.1.trans (hb.mono (by omega)), h.2.below hb (by omega)⟩
def EncoP (bs : List (BitVec 8)) (w : World) (e : Ending) (w' : World) : Prop := ∃ A c, e = .returned (.tuple #[.slice A bs.length c, .int .i64 0]) ∧ bs.length ≤ c ∧ Rd b8 w' w'.heap.size A bs ∧ Below w.heap.size w w' ∧ ∀ a, A = some a → w.heap.size ≤ a.block ∧ a.block < w'.heap.size
theorem encode_no (k : Int) (tx : BitVec 64) (sp no : Int) (A : Option Addr) (n c : Nat) (w : World) (er : Int) (her : er ≠ 0) (hc : ∀ W, Calls Try.prog 15 #[recV k tx sp no A n c] W (RetP (.int .i64 er) W)) : Calls Try.prog 8 #[recV k tx sp no A n c] w (RetP (.tuple #[.slice none 0 0, .int .i64 er]) w) := by
  have HC := Lib.hid hc
  have hk := Bk.new w 27 #[.int .i64 k, .int .u64 (U64 tx), .int .i64 sp, .int .i64 no, .slice A n c]
  have c0 := hk.cell 0
  have c1 := hk.cell 1
  have c2 := hk.cell 2
  have c3 := hk.cell 3
  have c4 := hk.cell 4
  have hb := Lib.hid (Gw.alloc w (.cells #[.int .i64 k, .int .u64 (U64 tx), .int .i64 sp, .int .i64 no, .slice A n c] 27))
  have t1 : (er != 0) = true := by simp [her]
  unfold recV at HC ⊢
  clear hk hc
  go_enter Try.func8, Try.ntmps8
  go_wp2_with fail
  refine Calls.mono (HC.out _) ?_
  rintro r w1 ⟨rfl, b1⟩
  have HB := Lib.hid (hb.out.trans (b1.mono hb.out.size))
  clear b1
  go_wp2_with fail
  go_ret2
  exact ⟨rfl, HB.out⟩
theorem encode_ok (k : Nat) (tx : BitVec 64) (sp no : Nat) (A : Option Addr) (d : List (BitVec 8)) (c : Nat) (w : World) (h : ¬ badR k sp no) (hd : d.length ≤ 4096) (hr : Rd b8 w w.heap.size A d) : Calls Try.prog 8 #[recV k tx sp no A d.length c] w (EncoP (encRL k tx sp no d) w) := by
  have HC := Lib.hid (fun W => check_ok k tx sp no A d.length c W h (by omega))
  obtain ⟨n, hn⟩ : ∃ n, n = d.length := ⟨_, rfl⟩
  have HBo := Lib.hid (bodyL_len k tx sp no d)
  have HEl := Lib.hid (encRL_len k tx sp no d)
  have hk := Bk.new w 27 #[.int .i64 k, .int .u64 (U64 tx), .int .i64 sp, .int .i64 no, .slice A n c]
  have HK := Lib.hid hk
  have hb := Lib.hid (Gw.alloc w (.cells #[.int .i64 k, .int .u64 (U64 tx), .int .i64 sp, .int .i64 no, .slice A n c] 27))
  have HR := Lib.hid hr
  have c0 := hk.cell 0
  have c1 := hk.cell 1
  have c2 := hk.cell 2
  have c3 := hk.cell 3
  have c4 := hk.cell 4
  rw [← hn] at HC ⊢
  have HN := Lib.hid hn
  have HD := Lib.hid hd
  unfold recV at HC ⊢
  have q1 : (0 : Int) ≤ (k : Int) := by omega
  have q2 : (k : Int) ≤ 3 := by unfold badR at h; omega
  have q3 : (0 : Int) ≤ (sp : Int) := by omega
  have q4 : (sp : Int) ≤ 1 := by unfold badR at h; omega
  have q5 : (0 : Int) ≤ (no : Int) := by omega
  have q6 : (no : Int) ≤ 65535 := by unfold badR at h; omega
  have HL := Lib.hid (show (uintL (BitVec.ofNat 64 k)).length ≤ 10 ∧ (uintL tx).length ≤ 10 ∧ (uintL (BitVec.ofNat 64 sp)).length ≤ 10 ∧ (uintL (BitVec.ofNat 64 no)).length ≤ 10 from ⟨uintF_len 9 _, uintF_len 9 _, uintF_len 9 _, uintF_len 9 _⟩)
  clear hk h hn hd hr
  go_enter Try.func8, Try.ntmps8
  go_wp2_with fail
  refine Calls.mono (HC.out _) ?_
  rintro r w1 ⟨rfl, b1⟩
  have HB1 := Lib.hid (hb.out.trans (b1.mono hb.out.size))
  have HK1 := Lib.hid (HK.out.below b1 HK.out.lt)
  obtain ⟨W2, hW2⟩ : ∃ W, W = (w1.alloc (.cells #[.slice none 0 0] 51)).alloc (.cells #[.slice none 0 0] 51) := ⟨_, rfl⟩
  have hT : TwoS W2 (w.heap.size + 1) w1.heap.size (w1.heap.size + 1) [] ∧ Below w.heap.size w W2 ∧ Bk W2 w.heap.size 27 #[.int .i64 k, .int .u64 (U64 tx), .int .i64 sp, .int .i64 no, .slice A n c] := by
    have e1 := Bk.new w1 51 #[.slice none 0 0]
    have e2 := Bk.new (w1.alloc (.cells #[.slice none 0 0] 51)) 51 #[.slice none 0 0]
    have b2 := (Gw.alloc w1 (.cells #[.slice none 0 0] 51)).trans (Gw.alloc (w1.alloc (.cells #[.slice none 0 0] 51)) (.cells #[.slice none 0 0] 51) |>.mono (by simp))
    have hs : w.heap.size + 1 ≤ w1.heap.size := HK1.out.lt
    rw [hW2]
    refine ⟨⟨.slice none 0 0, ⟨e1.alloc _, hs, Ow.nil_ _ _ _ _, by intro e; cases e⟩, ?_, by omega, (by intro e; cases e), by omega⟩, HB1.out.trans (b2.mono HB1.out.size), (HK1.out.alloc _).alloc _⟩
    simpa using e2
  have HT := Lib.hid hT
  clear hT b1 c0 c1 c2 c3 c4
  subst hW2
  obtain ⟨d0, d1, d2, d3, d4⟩ := HT.out.2.2.five
  go_wp2_with fail
  refine Calls.mono (TwoS.nat k (by omega) HT.out.1 (by simp)) ?_
  rintro r w3 ⟨rfl, t3, b3⟩
  have H3 := Lib.hid (keepB HT.out.2 b3)
  have T3 := Lib.hid t3
  obtain ⟨e0, e1, e2, e3, e4⟩ := H3.out.2.five
  clear d0 d1 d2 d3 d4 t3 b3 HT
  go_wp2_with fail
  refine Calls.mono (TwoS.uint tx T3.out (by have := HL.out; rw [List.nil_append]; omega)) ?_
  rintro r w4 ⟨rfl, t4, b4⟩
  have H4 := Lib.hid (keepB H3.out b4)
  have T4 := Lib.hid t4
  obtain ⟨d0, d1, d2, d3, d4⟩ := H4.out.2.five
  clear e0 e1 e2 e3 e4 t4 b4 H3 T3
  by_cases hk1 : k = 1
  · subst hk1
    go_wp2_with fail
    refine Calls.mono (TwoS.nat sp (by omega) T4.out (by have := HL.out; simp only [List.nil_append, List.length_append]; omega)) ?_
    rintro r w5 ⟨rfl, t5, b5⟩
    have H5 := Lib.hid (keepB H4.out b5)
    have T5 := Lib.hid t5
    obtain ⟨e0, e1, e2, e3, e4⟩ := H5.out.2.five
    clear d0 d1 d2 d3 d4 t5 b5 H4 T4
    go_wp2_with fail
    refine Calls.mono (TwoS.nat no (by omega) T5.out (by have := HL.out; simp only [List.nil_append, List.length_append]; omega)) ?_
    rintro r w6 ⟨rfl, t6, b6⟩
    have H6 := Lib.hid (keepB H5.out b6)
    have K6 := Lib.hid (TwoS.raw A c d t6 (((HR.out.below H6.out.1)).more (by omega)) (by have := HL.out; simp only [List.nil_append, List.length_append]; omega) (by have := HD.out; omega))
    rw [← HN.out] at K6
    obtain ⟨d0, d1, d2, d3, d4⟩ := H6.out.2.five
    clear e0 e1 e2 e3 e4 t6 b6 H5 T5
    go_wp2_with fail
    refine Calls.mono K6.out ?_
    rintro r w7 ⟨rfl, t7, b7⟩
    have H7 := Lib.hid (keepB H6.out b7)
    have T7 : Hid (TwoS w7 (w.heap.size + 1) w1.heap.size (w1.heap.size + 1) (bodyL 1 tx sp no d)) := Lib.hid (by
      rw [List.nil_append] at t7
      exact t7)
    clear t7 b7 H6 K6 d0 d1 d2 d3 d4
    obtain ⟨bl, hbl⟩ : ∃ bl, bl = bodyL 1 tx sp no d := ⟨_, rfl⟩
    have HE : Hid (encRL 1 tx sp no d = rawL (sealC bl)) := Lib.hid (by rw [hbl]; rfl)
    have HBL : Hid (bl.length ≤ 5000) := Lib.hid (by rw [hbl]; have := HBo.out; have := HD.out; omega)
    rw [← hbl] at T7
    clear hbl HBo
    go_wp2_with fail
    refine Calls.mono (T7.out.bytes (by have := HBL.out; omega)) ?_
    rintro r w8 ⟨A8, c8, rfl, hc8, hr8, b8', ha8⟩
    have T8 := Lib.hid (T7.out.below b8')
    have H8 := Lib.hid (H7.out.1.trans (b8'.mono H7.out.1.size))
    have K8 := Lib.hid (seal_c bl A8 c8 w8 hr8 (by have := HBL.out; omega))
    obtain ⟨n8, hn8⟩ : ∃ n8, n8 = bl.length := ⟨_, rfl⟩
    rw [← hn8] at K8 ⊢
    clear b8' T7 H7 hr8 ha8 hc8 hn8
    go_wp2_with fail
    refine Calls.mono K8.out ?_
    rintro r w9 ⟨A9, c9, rfl, hc9, ho9, b9⟩
    have T9 := Lib.hid (T8.out.below b9)
    have H9 := Lib.hid (H8.out.trans (b9.mono H8.out.size))
    have HS9 := Lib.hid (sealC_len bl)
    have K9 := Lib.hid (T9.out.out A9 c9 ho9.rd (fun a e e2 => by
      have h1 := (ow_addr ho9 a e).1
      obtain ⟨v, _, h2, _⟩ := T8.out
      have h3 := h2.lt
      omega) (by have := HBL.out; have := HS9.out; omega))
    obtain ⟨n9, hn9⟩ : ∃ n9, n9 = (sealC bl).length := ⟨_, rfl⟩
    rw [← hn9] at K9 ⊢
    clear b9 T8 H8 K8 ho9 hc9 hn9
    go_wp2_with fail
    refine Calls.mono K9.out ?_
    rintro r w10 ⟨rfl, ⟨v10, h10⟩, b10⟩
    have HH := Lib.hid (H9.out.trans (b10.mono (by omega)))
    have K10 := Lib.hid (show Calls Try.prog 19 #[.pointer (some ⟨w1.heap.size + 1, 0, none⟩)] w10 (CloneP (rawL (sealC bl)) w10) from by
      obtain ⟨A, c, e, hc⟩ := h10.row.form
      subst e
      exact enc_bytes w10 _ _ ⟨A, c, h10.blk, h10.row.rd⟩ (by have h1 := rawL_len (sealC bl); have := HBL.out; have := HS9.out; omega))
    clear h10 b10 K9 T9 H9
    go_wp2_with fail
    refine Calls.mono K10.out ?_
    rintro r w11 ⟨A11, c11, rfl, hc11, hr11, b11, ha11⟩
    have HF := Lib.hid (show Rd b8 w11 w11.heap.size A11 (rawL (sealC bl)) ∧ Below w.heap.size w w11 ∧ (∀ a, A11 = some a → w.heap.size ≤ a.block ∧ a.block < w11.heap.size) ∧ (rawL (sealC bl)).length ≤ c11 from ⟨hr11, HH.out.trans (b11.mono HH.out.size), fun a e => ⟨Nat.le_trans HH.out.size (ha11 a e).1, (ha11 a e).2⟩, hc11⟩)
    clear hr11 b11 ha11 hc11 K10
    go_wp2_with fail
    go_ret2
    rw [HE.out]
    exact ⟨A11, c11, rfl, HF.out.2.2.2, HF.out.1, HF.out.2.1, HF.out.2.2.1⟩
  · go_wp2_with fail
    have K4 := Lib.hid (TwoS.raw A c d T4.out (((HR.out.below H4.out.1)).more (by omega)) (by have := HL.out; simp only [List.nil_append, List.length_append]; omega) (by have := HD.out; omega))
    rw [← HN.out] at K4
    refine Calls.mono K4.out ?_
    rintro r w7 ⟨rfl, t7, b7⟩
    have H7 := Lib.hid (keepB H4.out b7)
    have T7 : Hid (TwoS w7 (w.heap.size + 1) w1.heap.size (w1.heap.size + 1) (bodyL k tx sp no d)) := Lib.hid (by
      rw [List.nil_append] at t7
      unfold bodyL
      rw [if_neg hk1]
      exact t7)
    clear t7 b7 H4 K4 d0 d1 d2 d3 d4 hk1
    obtain ⟨bl, hbl⟩ : ∃ bl, bl = bodyL k tx sp no d := ⟨_, rfl⟩
    have HE : Hid (encRL k tx sp no d = rawL (sealC bl)) := Lib.hid (by rw [hbl]; rfl)
    have HBL : Hid (bl.length ≤ 5000) := Lib.hid (by rw [hbl]; have := HBo.out; have := HD.out; omega)
    rw [← hbl] at T7
    clear hbl HBo
    go_wp2_with fail
    refine Calls.mono (T7.out.bytes (by have := HBL.out; omega)) ?_
    rintro r w8 ⟨A8, c8, rfl, hc8, hr8, b8', ha8⟩
    have T8 := Lib.hid (T7.out.below b8')
    have H8 := Lib.hid (H7.out.1.trans (b8'.mono H7.out.1.size))
    have K8 := Lib.hid (seal_c bl A8 c8 w8 hr8 (by have := HBL.out; omega))
    obtain ⟨n8, hn8⟩ : ∃ n8, n8 = bl.length := ⟨_, rfl⟩
    rw [← hn8] at K8 ⊢
    clear b8' T7 H7 hr8 ha8 hc8 hn8
    go_wp2_with fail
    refine Calls.mono K8.out ?_
    rintro r w9 ⟨A9, c9, rfl, hc9, ho9, b9⟩
    have T9 := Lib.hid (T8.out.below b9)
    have H9 := Lib.hid (H8.out.trans (b9.mono H8.out.size))
    have HS9 := Lib.hid (sealC_len bl)
    have K9 := Lib.hid (T9.out.out A9 c9 ho9.rd (fun a e e2 => by
      have h1 := (ow_addr ho9 a e).1
      obtain ⟨v, _, h2, _⟩ := T8.out
      have h3 := h2.lt
      omega) (by have := HBL.out; have := HS9.out; omega))
    obtain ⟨n9, hn9⟩ : ∃ n9, n9 = (sealC bl).length := ⟨_, rfl⟩
    rw [← hn9] at K9 ⊢
    clear b9 T8 H8 K8 ho9 hc9 hn9
    go_wp2_with fail
    refine Calls.mono K9.out ?_
    rintro r w10 ⟨rfl, ⟨v10, h10⟩, b10⟩
    have HH := Lib.hid (H9.out.trans (b10.mono (by omega)))
    have K10 := Lib.hid (show Calls Try.prog 19 #[.pointer (some ⟨w1.heap.size + 1, 0, none⟩)] w10 (CloneP (rawL (sealC bl)) w10) from by
      obtain ⟨A, c, e, hc⟩ := h10.row.form
      subst e
      exact enc_bytes w10 _ _ ⟨A, c, h10.blk, h10.row.rd⟩ (by have h1 := rawL_len (sealC bl); have := HBL.out; have := HS9.out; omega))
    clear h10 b10 K9 T9 H9
    go_wp2_with fail
    refine Calls.mono K10.out ?_
    rintro r w11 ⟨A11, c11, rfl, hc11, hr11, b11, ha11⟩
    have HF := Lib.hid (show Rd b8 w11 w11.heap.size A11 (rawL (sealC bl)) ∧ Below w.heap.size w w11 ∧ (∀ a, A11 = some a → w.heap.size ≤ a.block ∧ a.block < w11.heap.size) ∧ (rawL (sealC bl)).length ≤ c11 from ⟨hr11, HH.out.trans (b11.mono HH.out.size), fun a e => ⟨Nat.le_trans HH.out.size (ha11 a e).1, (ha11 a e).2⟩, hc11⟩)
    clear hr11 b11 ha11 hc11 K10
    go_wp2_with fail
    go_ret2
    rw [HE.out]
    exact ⟨A11, c11, rfl, HF.out.2.2.2, HF.out.1, HF.out.2.1, HF.out.2.2.1⟩
end Go.Proofs.Ytoigahkgdanjnaa
