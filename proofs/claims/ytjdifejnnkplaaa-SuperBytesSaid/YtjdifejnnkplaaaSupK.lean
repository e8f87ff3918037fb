/- loamref6.Encode of a block that may be. No conditions but on the numbers. -/
import Derived.Test.YtjdifejnnkplaaaSupI
namespace Go.Proofs.Ytjdifejnnkplaaa
set_option linter.unusedVariables false
set_option linter.unusedSimpArgs false
open Go.RowKit
set_option maxRecDepth 100000
set_option maxHeartbeats 2000000
/-- The block, and the row, of a walk through loamref6.Encode. -/
def RefB (w W : World) (cs : Array Value) (v : Value) (bs : List (BitVec 8)) : Prop := Bk W w.heap.size 37 cs ∧ Ow b8 5 W (w.heap.size + 1) v bs ∧ Below w.heap.size w W
theorem RefB.below {w W W' : World} {cs : Array Value} {v : Value} {bs : List (BitVec 8)} (h : RefB w W cs v bs) (hb : Below W.heap.size W W') : RefB w W' cs v bs := ⟨h.1.below hb h.1.lt, h.2.1.below hb, h.2.2.trans (hb.mono h.2.2.size)⟩
theorem RefB.app {w W W' : World} {cs : Array Value} {v v' : Value} {bs bs' : List (BitVec 8)} (h : RefB w W cs v bs) (hb : Below (w.heap.size + 1) W W') (ho : Ow b8 5 W' (w.heap.size + 1) v' bs') : RefB w W' cs v' bs' := ⟨h.1.below hb (Nat.lt_succ_self _), ho, h.2.2.trans (hb.mono (Nat.le_succ _))⟩
theorem RefB.lt {w W : World} {cs : Array Value} {v : Value} {bs : List (BitVec 8)} (h : RefB w W cs v bs) : w.heap.size + 1 ≤ W.heap.size := h.1.lt
theorem head2 (ep : BitVec 64) (s l n sp wd : Nat) (lg : BitVec 64) : headB ep s l n sp wd lg 2 = [76#8, 79#8, 65#8, 77#8] ++ [1#8, 0#8, 0#8, 0#8] := by
  unfold headB numsL
  simp only [List.take_succ_cons, List.take_zero, List.flatMap_cons, List.flatMap_nil]
  decide +kernel
theorem new_mark (W : World) (E : TypeId) (cs : List Value) (fr : Nat × Nat) (g : Nat) (hg : g = W.heap.size) : ∀ j u, cs[j]? = some u → (W.alloc (.cells cs.toArray E fr)).cell? ((⟨g, 0, none⟩ : Addr).add j) = some u := by
  subst hg
  intro j u h
  have e2 : ((⟨W.heap.size, 0, none⟩ : Addr).add j) = ⟨W.heap.size, j, none⟩ := by unfold Addr.add; by_cases k : j = 0 <;> simp [k]
  rw [e2, cell_of_row _ _ j _ _ _ (heap_alloc_new W (.cells cs.toArray E fr))]
  simpa using h
theorem new_behind (W : World) (E F : TypeId) (cs : List Value) (fr : Nat × Nat) (ds : Array Value) (g : Nat) (hg : g = W.heap.size) : ∀ b, some (⟨g, 0, none⟩ : Addr) = some b → ∀ j u, cs[j]? = some u → ((W.alloc (.cells cs.toArray E fr)).alloc (.cells ds F)).cell? (b.add j) = some u := by
  intro b e j u h
  injection e with e
  subst e
  rw [World.cell?_alloc_lt _ _ _ (by rw [add_block]; subst hg; simp)]
  exact new_mark W E cs fr g hg j u h
theorem ref_start {w w1 w2 : World} {cs : Array Value} {v2 : Value} (hk : Bk w1 w.heap.size 37 cs) (hb : Below w.heap.size w w1) (o1 o2 : Obj) (hg : ((w1.alloc o1).alloc o2).grownBy w2 none)
    (ho : w2.ownsRow ((w1.alloc o1).alloc o2).heap.size 5 1 v2 (4 + 4) ([.int .u8 76, .int .u8 79, .int .u8 65, .int .u8 77] ++ [.int .u8 1, .int .u8 0, .int .u8 0, .int .u8 0])) : RefB w w2 cs v2 ([76#8, 79#8, 65#8, 77#8] ++ [1#8, 0#8, 0#8, 0#8]) := by
  have hb2 : Below ((w1.alloc o1).alloc o2).heap.size ((w1.alloc o1).alloc o2) w2 := (Below.refl _ _).grown hg (Nat.le_refl _) (by simp)
  have hs := hb.size
  have hl := hk.lt
  refine ⟨((hk.alloc _).alloc _).below hb2 (by simp; omega), Ow.mono (show Ow b8 5 w2 ((w1.alloc o1).alloc o2).heap.size v2 ([76#8, 79#8, 65#8, 77#8] ++ [1#8, 0#8, 0#8, 0#8]) from ho) (by simp; omega), ?_⟩
  exact ((hb.trans ((Gw.alloc w1 o1).mono hs)).trans ((Gw.alloc _ o2).mono (by simp; omega))).trans (hb2.mono (by simp; omega))
theorem low8 (v : BitVec 64) (W : World) : Calls Try.prog 21 #[.int .u64 (U64 v), .int .i64 8] W (MkP b8 5 (lowN v 8) W) := low_c v 8 (by decide) W
theorem low4 (n : Nat) (x : Int) (hx : x = (n : Int)) (hn : n < 2 ^ 64) (W : World) : Calls Try.prog 21 #[.int .u64 x, .int .i64 4] W (MkP b8 5 (lowN (BitVec.ofNat 64 n) 4) W) := by
  subst hx
  exact low_nat n 4 hn (by decide) W
def lenV : Value → Nat
  | .slice _ n _ => n
  | _ => 0
theorem renc6_ok (ep : BitVec 64) (s l n sp wd : Nat) (lg : BitVec 64) (w : World) (h : goodS s l n sp wd) : Calls Try.prog 10 #[blkV ep s l n sp wd lg] w (Enc6P (encSB ep s l n sp wd lg) w) := by
  obtain ⟨hg, hsp, hwd⟩ := h
  have og := okG_out hg
  have b1 := og.s1
  have b2 := og.s2
  have b3 := og.l2
  have b4 := og.n2
  have HC := Lib.hid (fun W => rcheck_c (s : Int) l n W)
  have hc : chkG s l n = (if okG s l n then 0 else 1) := rfl
  rw [hg] at hc
  simp only [if_true] at hc
  rw [hc] at HC
  unfold gV at HC
  have HX := Lib.hid (show 64 ≤ s ∧ s ≤ 1024 ∧ l ≤ 1024 ∧ n ≤ 8192 ∧ sp ≤ 1 ∧ wd ≤ 8192 from by omega)
  have HK := Lib.hid (Bk.new w 37 #[.int .u64 (U64 ep), .int .i64 (s : Int), .int .i64 (l : Int), .int .i64 (n : Int), .int .i64 (sp : Int), .int .i64 (wd : Int), .int .u64 (U64 lg)])
  have HB := Lib.hid (Gw.alloc w (.cells #[.int .u64 (U64 ep), .int .i64 (s : Int), .int .i64 (l : Int), .int .i64 (n : Int), .int .i64 (sp : Int), .int .i64 (wd : Int), .int .u64 (U64 lg)] 37))
  obtain ⟨c0, c1, c2, c3, c4, c5, c6⟩ := HK.out.seven
  have q3 : ¬ (wd : Int) < 0 := by omega
  have q4 : ¬ (n : Int) < (wd : Int) := by omega
  have p1 : (0 : Int) ≤ (s : Int) ∧ (s : Int) ≤ 1024 := by omega
  have p2 : (0 : Int) ≤ (l : Int) ∧ (l : Int) ≤ 1024 := by omega
  have p3 : (0 : Int) ≤ (n : Int) ∧ (n : Int) ≤ 8192 := by omega
  have p5 : (0 : Int) ≤ (wd : Int) ∧ (wd : Int) ≤ 8192 := by omega
  clear hg og hc b1 b2 b3 b4
  unfold blkV
  rcases (show sp = 0 ∨ sp = 1 from by omega) with rfl | rfl
  · go_enter Try.func10, Try.ntmps10
    go_wp2_with fail
    refine Calls.mono (HC.out _) ?_
    rintro e w1 ⟨rfl, b1⟩
    have HB1 := Lib.hid (HB.out.trans (b1.mono HB.out.size))
    have HK1 := Lib.hid (HK.out.below b1 HK.out.lt)
    have kc := Joins.run_convert_bytes_const_at (P := Try.prog) w1 29 5 #[.int .u8 76, .int .u8 79, .int .u8 65, .int .u8 77] 4 4 w1.heap.size rfl Try.underlying29 Try.underlying5
    have HO := Lib.hid (new_behind w1 5 5 [.int .u8 76, .int .u8 79, .int .u8 65, .int .u8 77] (4, 5) #[.int .u8 1, .int .u8 0, .int .u8 0, .int .u8 0] w1.heap.size rfl)
    have HNw := Lib.hid (new_mark (w1.alloc (.cells #[.int .u8 76, .int .u8 79, .int .u8 65, .int .u8 77] 5 (4, 5))) 5 [.int .u8 1, .int .u8 0, .int .u8 0, .int .u8 0] (0, 0) (w1.heap.size + 1) (by simp))
    obtain ⟨i0, hi0, hz0, hs0, hb0⟩ := one8.info
    have HI := Lib.hid (And.intro hi0 (And.intro hz0 (And.intro hs0 hb0)))
    have HH := Lib.hid (fun k => headB_len ep s l n 0 wd lg k)
    have H2 := Lib.hid (head2 ep s l n 0 wd lg)
    clear b1 c0 c1 c2 c3 c4 c5 c6 hi0 hz0 hs0 hb0
    obtain ⟨c0, c1, c2, c3, c4, c5, c6⟩ := HK1.out.seven
    go_wp2_with (at_builtin; refine wpList_append_grows _ rfl (.tmp 33) (.tmp 34) 29 rfl 5 i0 (.int .u8 0) 1 1 Try.underlying29 HI.out.1 HI.out.2.1 HI.out.2.2.1 HI.out.2.2.2 rfl (by decide) (some ⟨w1.heap.size, 0, none⟩) 4 4 [.int .u8 76, .int .u8 79, .int .u8 65, .int .u8 77] rfl (by intro e; cases e) rfl HO.out ⟨w1.heap.size + 1, 0, none⟩ 4 4 [.int .u8 1, .int .u8 0, .int .u8 0, .int .u8 0] rfl rfl HNw.out (by intro u hu; simp only [List.mem_cons, List.not_mem_nil, or_false] at hu; rcases hu with rfl | rfl | rfl | rfl <;> rfl) (by decide) (by decide) (by decide) ?_; intro v2 w2 ho2 hg2; have R2 := Lib.hid (ref_start HK1.out HB1.out _ _ hg2 ho2); rw [← H2.out] at R2; clear ho2 hg2 c0 c1 c2 c3 c4 c5 c6 kc; obtain ⟨c0, c1, c2, c3, c4, c5, c6⟩ := R2.out.1.seven)
    refine Calls.mono (low8 ep _) ?_
    rintro e w12 ⟨A12, k12, rfl, hk12, ho12, b12⟩
    have R12 := Lib.hid (R2.out.below b12)
    have D12 := Lib.hid ho12.rd
    rw [lowN_len]
    have E12 := Lib.hid (show headB ep s l n 0 wd lg 3 = headB ep s l n 0 wd lg 2 ++ lowN (ep) 8 from headB_succ ep s l n 0 wd lg 2 _ _ rfl)
    have L12 := Lib.hid (show (headB ep s l n 0 wd lg 2).length + (lowN (ep) 8).length ≤ 4294967296 from by have := HH.out 2 (by decide); rw [lowN_len]; omega)
    clear hk12 ho12 b12 R2 c0 c1 c2 c3 c4 c5 c6
    go_wp2_with (at_builtin; refine wp_app one8 b8_one rfl (.tmp 36) (.tmp 39) rfl (w.heap.size + 1) v2 (headB ep s l n 0 wd lg 2) rfl R12.out.2.1 A12 8 k12 (lowN (ep) 8) rfl (lowN_len _ _).symm _ D12.out L12.out (by decide) R12.out.lt ?_; intro v3 w3 ho3 hb3 _ _; have R3 := Lib.hid (R12.out.app hb3 (E12.out.symm ▸ ho3)); clear ho3 hb3 R12 D12 E12 L12; obtain ⟨c0, c1, c2, c3, c4, c5, c6⟩ := R3.out.1.seven)
    refine Calls.mono (low4 s _ (by rfl) (by have := HX.out; omega) _) ?_
    rintro e w13 ⟨A13, k13, rfl, hk13, ho13, b13⟩
    have R13 := Lib.hid (R3.out.below b13)
    have D13 := Lib.hid ho13.rd
    rw [lowN_len]
    have E13 := Lib.hid (show headB ep s l n 0 wd lg 4 = headB ep s l n 0 wd lg 3 ++ lowN (BitVec.ofNat 64 s) 4 from headB_succ ep s l n 0 wd lg 3 _ _ rfl)
    have L13 := Lib.hid (show (headB ep s l n 0 wd lg 3).length + (lowN (BitVec.ofNat 64 s) 4).length ≤ 4294967296 from by have := HH.out 3 (by decide); rw [lowN_len]; omega)
    clear hk13 ho13 b13 R3 c0 c1 c2 c3 c4 c5 c6
    go_wp2_with (at_builtin; refine wp_app one8 b8_one rfl (.tmp 41) (.tmp 46) rfl (w.heap.size + 1) v3 (headB ep s l n 0 wd lg 3) rfl R13.out.2.1 A13 4 k13 (lowN (BitVec.ofNat 64 s) 4) rfl (lowN_len _ _).symm _ D13.out L13.out (by decide) R13.out.lt ?_; intro v4 w4 ho4 hb4 _ _; have R4 := Lib.hid (R13.out.app hb4 (E13.out.symm ▸ ho4)); clear ho4 hb4 R13 D13 E13 L13; obtain ⟨c0, c1, c2, c3, c4, c5, c6⟩ := R4.out.1.seven)
    refine Calls.mono (low4 l _ (by rfl) (by have := HX.out; omega) _) ?_
    rintro e w14 ⟨A14, k14, rfl, hk14, ho14, b14⟩
    have R14 := Lib.hid (R4.out.below b14)
    have D14 := Lib.hid ho14.rd
    rw [lowN_len]
    have E14 := Lib.hid (show headB ep s l n 0 wd lg 5 = headB ep s l n 0 wd lg 4 ++ lowN (BitVec.ofNat 64 l) 4 from headB_succ ep s l n 0 wd lg 4 _ _ rfl)
    have L14 := Lib.hid (show (headB ep s l n 0 wd lg 4).length + (lowN (BitVec.ofNat 64 l) 4).length ≤ 4294967296 from by have := HH.out 4 (by decide); rw [lowN_len]; omega)
    clear hk14 ho14 b14 R4 c0 c1 c2 c3 c4 c5 c6
    go_wp2_with (at_builtin; refine wp_app one8 b8_one rfl (.tmp 48) (.tmp 53) rfl (w.heap.size + 1) v4 (headB ep s l n 0 wd lg 4) rfl R14.out.2.1 A14 4 k14 (lowN (BitVec.ofNat 64 l) 4) rfl (lowN_len _ _).symm _ D14.out L14.out (by decide) R14.out.lt ?_; intro v5 w5 ho5 hb5 _ _; have R5 := Lib.hid (R14.out.app hb5 (E14.out.symm ▸ ho5)); clear ho5 hb5 R14 D14 E14 L14; obtain ⟨c0, c1, c2, c3, c4, c5, c6⟩ := R5.out.1.seven)
    refine Calls.mono (low4 n _ (by rfl) (by have := HX.out; omega) _) ?_
    rintro e w15 ⟨A15, k15, rfl, hk15, ho15, b15⟩
    have R15 := Lib.hid (R5.out.below b15)
    have D15 := Lib.hid ho15.rd
    rw [lowN_len]
    have E15 := Lib.hid (show headB ep s l n 0 wd lg 6 = headB ep s l n 0 wd lg 5 ++ lowN (BitVec.ofNat 64 n) 4 from headB_succ ep s l n 0 wd lg 5 _ _ rfl)
    have L15 := Lib.hid (show (headB ep s l n 0 wd lg 5).length + (lowN (BitVec.ofNat 64 n) 4).length ≤ 4294967296 from by have := HH.out 5 (by decide); rw [lowN_len]; omega)
    clear hk15 ho15 b15 R5 c0 c1 c2 c3 c4 c5 c6
    go_wp2_with (at_builtin; refine wp_app one8 b8_one rfl (.tmp 55) (.tmp 60) rfl (w.heap.size + 1) v5 (headB ep s l n 0 wd lg 5) rfl R15.out.2.1 A15 4 k15 (lowN (BitVec.ofNat 64 n) 4) rfl (lowN_len _ _).symm _ D15.out L15.out (by decide) R15.out.lt ?_; intro v6 w6 ho6 hb6 _ _; have R6 := Lib.hid (R15.out.app hb6 (E15.out.symm ▸ ho6)); clear ho6 hb6 R15 D15 E15 L15; obtain ⟨c0, c1, c2, c3, c4, c5, c6⟩ := R6.out.1.seven)
    refine Calls.mono (low4 0 _ (by rfl) (by have := HX.out; omega) _) ?_
    rintro e w16 ⟨A16, k16, rfl, hk16, ho16, b16⟩
    have R16 := Lib.hid (R6.out.below b16)
    have D16 := Lib.hid ho16.rd
    rw [lowN_len]
    have E16 := Lib.hid (show headB ep s l n 0 wd lg 7 = headB ep s l n 0 wd lg 6 ++ lowN (BitVec.ofNat 64 0) 4 from headB_succ ep s l n 0 wd lg 6 _ _ rfl)
    have L16 := Lib.hid (show (headB ep s l n 0 wd lg 6).length + (lowN (BitVec.ofNat 64 0) 4).length ≤ 4294967296 from by have := HH.out 6 (by decide); rw [lowN_len]; omega)
    clear hk16 ho16 b16 R6 c0 c1 c2 c3 c4 c5 c6
    go_wp2_with (at_builtin; refine wp_app one8 b8_one rfl (.tmp 62) (.tmp 66) rfl (w.heap.size + 1) v6 (headB ep s l n 0 wd lg 6) rfl R16.out.2.1 A16 4 k16 (lowN (BitVec.ofNat 64 0) 4) rfl (lowN_len _ _).symm _ D16.out L16.out (by decide) R16.out.lt ?_; intro v7 w7 ho7 hb7 _ _; have R7 := Lib.hid (R16.out.app hb7 (E16.out.symm ▸ ho7)); clear ho7 hb7 R16 D16 E16 L16; obtain ⟨c0, c1, c2, c3, c4, c5, c6⟩ := R7.out.1.seven)
    refine Calls.mono (low4 wd _ (by rfl) (by have := HX.out; omega) _) ?_
    rintro e w17 ⟨A17, k17, rfl, hk17, ho17, b17⟩
    have R17 := Lib.hid (R7.out.below b17)
    have D17 := Lib.hid ho17.rd
    rw [lowN_len]
    have E17 := Lib.hid (show headB ep s l n 0 wd lg 8 = headB ep s l n 0 wd lg 7 ++ lowN (BitVec.ofNat 64 wd) 4 from headB_succ ep s l n 0 wd lg 7 _ _ rfl)
    have L17 := Lib.hid (show (headB ep s l n 0 wd lg 7).length + (lowN (BitVec.ofNat 64 wd) 4).length ≤ 4294967296 from by have := HH.out 7 (by decide); rw [lowN_len]; omega)
    clear hk17 ho17 b17 R7 c0 c1 c2 c3 c4 c5 c6
    go_wp2_with (at_builtin; refine wp_app one8 b8_one rfl (.tmp 68) (.tmp 72) rfl (w.heap.size + 1) v7 (headB ep s l n 0 wd lg 7) rfl R17.out.2.1 A17 4 k17 (lowN (BitVec.ofNat 64 wd) 4) rfl (lowN_len _ _).symm _ D17.out L17.out (by decide) R17.out.lt ?_; intro v8 w8 ho8 hb8 _ _; have R8 := Lib.hid (R17.out.app hb8 (E17.out.symm ▸ ho8)); clear ho8 hb8 R17 D17 E17 L17; obtain ⟨c0, c1, c2, c3, c4, c5, c6⟩ := R8.out.1.seven)
    refine Calls.mono (low8 lg _) ?_
    rintro e w18 ⟨A18, k18, rfl, hk18, ho18, b18⟩
    have R18 := Lib.hid (R8.out.below b18)
    have D18 := Lib.hid ho18.rd
    rw [lowN_len]
    have E18 := Lib.hid (show headB ep s l n 0 wd lg 9 = headB ep s l n 0 wd lg 8 ++ lowN (lg) 8 from headB_succ ep s l n 0 wd lg 8 _ _ rfl)
    have L18 := Lib.hid (show (headB ep s l n 0 wd lg 8).length + (lowN (lg) 8).length ≤ 4294967296 from by have := HH.out 8 (by decide); rw [lowN_len]; omega)
    clear hk18 ho18 b18 R8 c0 c1 c2 c3 c4 c5 c6
    go_wp2_with (at_builtin; refine wp_app one8 b8_one rfl (.tmp 74) (.tmp 77) rfl (w.heap.size + 1) v8 (headB ep s l n 0 wd lg 8) rfl R18.out.2.1 A18 8 k18 (lowN (lg) 8) rfl (lowN_len _ _).symm _ D18.out L18.out (by decide) R18.out.lt ?_; intro v9 w9 ho9 hb9 _ _; have R9 := Lib.hid (R18.out.app hb9 (E18.out.symm ▸ ho9)); clear ho9 hb9 R18 D18 E18 L18; obtain ⟨c0, c1, c2, c3, c4, c5, c6⟩ := R9.out.1.seven)
    have HL9 := Lib.hid (headB_full ep s l n 0 wd lg)
    clear c0 c1 c2 c3 c4 c5 c6 HI HO HNw HH H2 HK1 HB1
    go_loopw [4] (fun ov wr => ∃ j : Nat, 44 + j ≤ s - 4 ∧ Hid (RefB w wr #[.int .u64 (U64 ep), .int .i64 (s : Int), .int .i64 (l : Int), .int .i64 (n : Int), .int .i64 (0 : Int), .int .i64 (wd : Int), .int .u64 (U64 lg)] ov (headB ep s l n 0 wd lg 9 ++ List.replicate j 0#8))) (fun ov _ => s - lenV ov)
    case atStart => exact ⟨0, by have := HX.out; omega, Lib.hid (by rw [List.replicate_zero, List.append_nil]; exact R9.out)⟩
    case round =>
      obtain ⟨j, hj, hR⟩ := hrel
      clear R9
      obtain ⟨A4, k4, rfl, hk4⟩ := hR.out.2.1.form
      obtain ⟨N, hN⟩ : ∃ N, N = (headB ep s l n 0 wd lg 9 ++ List.replicate j 0#8).length := ⟨_, rfl⟩
      have hN2 : N = 44 + j := by rw [hN, List.length_append, HL9.out, List.length_replicate]
      rw [← hN] at hR ⊢
      have HN := Lib.hid hN
      clear hk4 hN
      obtain ⟨c0, c1, c2, c3, c4, c5, c6⟩ := hR.out.1.seven
      have hNI : (N : Int) = 44 + (j : Int) := by omega
      have HN2 := Lib.hid hN2
      clear hN2
      by_cases hlt : 44 + j < s - 4
      · have t1 : (N : Int) < (s : Int) - 4 := by omega
        have HNI := Lib.hid hNI
        clear hNI
        have R8 := Lib.hid (hR.out.below (Gw.alloc wr (.cells #[.int .u8 0] 5)))
        have D8 := Lib.hid (show Rd b8 (wr.alloc (.cells #[.int .u8 0] 5)) (wr.alloc (.cells #[.int .u8 0] 5)).heap.size (some ⟨wr.heap.size, 0, none⟩) [0#8] from fun k hk => by
          have h0 : k = 0 := by simpa using hk
          subst h0
          exact ⟨_, rfl, by simp, new_mark wr 5 [.int .u8 0] (0, 0) wr.heap.size rfl 0 _ rfl⟩)
        have L8 := Lib.hid (show (headB ep s l n 0 wd lg 9 ++ List.replicate j 0#8).length + [0#8].length ≤ 4294967296 from by rw [← HN.out, HN2.out]; simp; have := HX.out; omega)
        go_wp2_with (at_builtin; refine wp_app one8 b8_one rfl (.tmp 86) (.tmp 87) rfl (w.heap.size + 1) (.slice A4 N k4) (headB ep s l n 0 wd lg 9 ++ List.replicate j 0#8) rfl R8.out.2.1 (some ⟨wr.heap.size, 0, none⟩) 1 1 [0#8] rfl rfl _ D8.out L8.out (by decide) R8.out.lt ?_; intro vN wN hoN hbN _ _; have RN := Lib.hid (R8.out.app hbN hoN); clear hoN hbN R8 D8 L8)
        obtain ⟨A5, k5, rfl, hk5⟩ := RN.out.2.1.form
        have hl5 : (headB ep s l n 0 wd lg 9 ++ List.replicate j 0#8 ++ [0#8]).length = N + 1 := by rw [List.length_append, ← HN.out]; rfl
        rw [hl5] at RN ⊢
        go_roundw
        case rel => exact ⟨j + 1, by omega, Lib.hid (by have h := RN.out; rw [List.append_assoc, ← List.replicate_succ'] at h; exact h)⟩
        case measure => (have h1 := HN2.out; have h2 : N < s := (by omega); simp [lenV]; try omega)
      · have hje : j = s - 4 - 44 := by omega
        have t1 : ¬ (N : Int) < (s : Int) - 4 := by omega
        have HS := Lib.hid (rseal_c (secB ep s l n 0 wd lg) A4 k4 wr (by have h := hR.out.2.1; rw [HN.out] at h; have h2 := h.rd; rw [hje] at h2; exact h2) (by unfold secB; rw [List.length_append, HL9.out, List.length_replicate]; have := HX.out; omega))
        have hls : (secB ep s l n 0 wd lg).length = N := by unfold secB; rw [← hje]; exact HN.out.symm
        rw [hls] at HS
        have HNI := Lib.hid hNI
        have HJE := Lib.hid hje
        clear hNI hje
        go_wp2_with fail
        refine Calls.mono HS.out ?_
        rintro e wz ⟨AZ, kZ, rfl, hkZ, hoZ, bZ⟩
        have HZ := Lib.hid (And.intro hkZ (And.intro hoZ (hR.out.2.2.trans (bZ.mono hR.out.2.2.size))))
        have HZB := Lib.hid hR.out.2.2.size
        clear bZ hkZ hoZ
        obtain ⟨NZ, hNZ⟩ : ∃ N, N = (sealC (secB ep s l n 0 wd lg)).length := ⟨_, rfl⟩
        rw [← hNZ] at HZ ⊢
        go_wp2_with fail
        go_ret2
        refine ⟨AZ, kZ, rfl, by have h := HZ.out.1; rw [hNZ] at h; exact h, by have h := HZ.out.2.1; rw [hNZ] at h; exact h.rd, HZ.out.2.2, fun a ha => ?_⟩
        rcases HZ.out.2.1.2 with ⟨e, _⟩ | ⟨gq, cap, cur, e, hq, _⟩
        · injection e with e1
          rw [ha] at e1
          cases e1
        · injection e with e1
          rw [ha] at e1
          injection e1 with e1
          rw [e1]
          exact Nat.le_trans HZB.out hq
  · go_enter Try.func10, Try.ntmps10
    go_wp2_with fail
    refine Calls.mono (HC.out _) ?_
    rintro e w1 ⟨rfl, b1⟩
    have HB1 := Lib.hid (HB.out.trans (b1.mono HB.out.size))
    have HK1 := Lib.hid (HK.out.below b1 HK.out.lt)
    have kc := Joins.run_convert_bytes_const_at (P := Try.prog) w1 29 5 #[.int .u8 76, .int .u8 79, .int .u8 65, .int .u8 77] 4 4 w1.heap.size rfl Try.underlying29 Try.underlying5
    have HO := Lib.hid (new_behind w1 5 5 [.int .u8 76, .int .u8 79, .int .u8 65, .int .u8 77] (4, 5) #[.int .u8 1, .int .u8 0, .int .u8 0, .int .u8 0] w1.heap.size rfl)
    have HNw := Lib.hid (new_mark (w1.alloc (.cells #[.int .u8 76, .int .u8 79, .int .u8 65, .int .u8 77] 5 (4, 5))) 5 [.int .u8 1, .int .u8 0, .int .u8 0, .int .u8 0] (0, 0) (w1.heap.size + 1) (by simp))
    obtain ⟨i0, hi0, hz0, hs0, hb0⟩ := one8.info
    have HI := Lib.hid (And.intro hi0 (And.intro hz0 (And.intro hs0 hb0)))
    have HH := Lib.hid (fun k => headB_len ep s l n 1 wd lg k)
    have H2 := Lib.hid (head2 ep s l n 1 wd lg)
    clear b1 c0 c1 c2 c3 c4 c5 c6 hi0 hz0 hs0 hb0
    obtain ⟨c0, c1, c2, c3, c4, c5, c6⟩ := HK1.out.seven
    go_wp2_with (at_builtin; refine wpList_append_grows _ rfl (.tmp 33) (.tmp 34) 29 rfl 5 i0 (.int .u8 0) 1 1 Try.underlying29 HI.out.1 HI.out.2.1 HI.out.2.2.1 HI.out.2.2.2 rfl (by decide) (some ⟨w1.heap.size, 0, none⟩) 4 4 [.int .u8 76, .int .u8 79, .int .u8 65, .int .u8 77] rfl (by intro e; cases e) rfl HO.out ⟨w1.heap.size + 1, 0, none⟩ 4 4 [.int .u8 1, .int .u8 0, .int .u8 0, .int .u8 0] rfl rfl HNw.out (by intro u hu; simp only [List.mem_cons, List.not_mem_nil, or_false] at hu; rcases hu with rfl | rfl | rfl | rfl <;> rfl) (by decide) (by decide) (by decide) ?_; intro v2 w2 ho2 hg2; have R2 := Lib.hid (ref_start HK1.out HB1.out _ _ hg2 ho2); rw [← H2.out] at R2; clear ho2 hg2 c0 c1 c2 c3 c4 c5 c6 kc; obtain ⟨c0, c1, c2, c3, c4, c5, c6⟩ := R2.out.1.seven)
    refine Calls.mono (low8 ep _) ?_
    rintro e w12 ⟨A12, k12, rfl, hk12, ho12, b12⟩
    have R12 := Lib.hid (R2.out.below b12)
    have D12 := Lib.hid ho12.rd
    rw [lowN_len]
    have E12 := Lib.hid (show headB ep s l n 1 wd lg 3 = headB ep s l n 1 wd lg 2 ++ lowN (ep) 8 from headB_succ ep s l n 1 wd lg 2 _ _ rfl)
    have L12 := Lib.hid (show (headB ep s l n 1 wd lg 2).length + (lowN (ep) 8).length ≤ 4294967296 from by have := HH.out 2 (by decide); rw [lowN_len]; omega)
    clear hk12 ho12 b12 R2 c0 c1 c2 c3 c4 c5 c6
    go_wp2_with (at_builtin; refine wp_app one8 b8_one rfl (.tmp 36) (.tmp 39) rfl (w.heap.size + 1) v2 (headB ep s l n 1 wd lg 2) rfl R12.out.2.1 A12 8 k12 (lowN (ep) 8) rfl (lowN_len _ _).symm _ D12.out L12.out (by decide) R12.out.lt ?_; intro v3 w3 ho3 hb3 _ _; have R3 := Lib.hid (R12.out.app hb3 (E12.out.symm ▸ ho3)); clear ho3 hb3 R12 D12 E12 L12; obtain ⟨c0, c1, c2, c3, c4, c5, c6⟩ := R3.out.1.seven)
    refine Calls.mono (low4 s _ (by rfl) (by have := HX.out; omega) _) ?_
    rintro e w13 ⟨A13, k13, rfl, hk13, ho13, b13⟩
    have R13 := Lib.hid (R3.out.below b13)
    have D13 := Lib.hid ho13.rd
    rw [lowN_len]
    have E13 := Lib.hid (show headB ep s l n 1 wd lg 4 = headB ep s l n 1 wd lg 3 ++ lowN (BitVec.ofNat 64 s) 4 from headB_succ ep s l n 1 wd lg 3 _ _ rfl)
    have L13 := Lib.hid (show (headB ep s l n 1 wd lg 3).length + (lowN (BitVec.ofNat 64 s) 4).length ≤ 4294967296 from by have := HH.out 3 (by decide); rw [lowN_len]; omega)
    clear hk13 ho13 b13 R3 c0 c1 c2 c3 c4 c5 c6
    go_wp2_with (at_builtin; refine wp_app one8 b8_one rfl (.tmp 41) (.tmp 46) rfl (w.heap.size + 1) v3 (headB ep s l n 1 wd lg 3) rfl R13.out.2.1 A13 4 k13 (lowN (BitVec.ofNat 64 s) 4) rfl (lowN_len _ _).symm _ D13.out L13.out (by decide) R13.out.lt ?_; intro v4 w4 ho4 hb4 _ _; have R4 := Lib.hid (R13.out.app hb4 (E13.out.symm ▸ ho4)); clear ho4 hb4 R13 D13 E13 L13; obtain ⟨c0, c1, c2, c3, c4, c5, c6⟩ := R4.out.1.seven)
    refine Calls.mono (low4 l _ (by rfl) (by have := HX.out; omega) _) ?_
    rintro e w14 ⟨A14, k14, rfl, hk14, ho14, b14⟩
    have R14 := Lib.hid (R4.out.below b14)
    have D14 := Lib.hid ho14.rd
    rw [lowN_len]
    have E14 := Lib.hid (show headB ep s l n 1 wd lg 5 = headB ep s l n 1 wd lg 4 ++ lowN (BitVec.ofNat 64 l) 4 from headB_succ ep s l n 1 wd lg 4 _ _ rfl)
    have L14 := Lib.hid (show (headB ep s l n 1 wd lg 4).length + (lowN (BitVec.ofNat 64 l) 4).length ≤ 4294967296 from by have := HH.out 4 (by decide); rw [lowN_len]; omega)
    clear hk14 ho14 b14 R4 c0 c1 c2 c3 c4 c5 c6
    go_wp2_with (at_builtin; refine wp_app one8 b8_one rfl (.tmp 48) (.tmp 53) rfl (w.heap.size + 1) v4 (headB ep s l n 1 wd lg 4) rfl R14.out.2.1 A14 4 k14 (lowN (BitVec.ofNat 64 l) 4) rfl (lowN_len _ _).symm _ D14.out L14.out (by decide) R14.out.lt ?_; intro v5 w5 ho5 hb5 _ _; have R5 := Lib.hid (R14.out.app hb5 (E14.out.symm ▸ ho5)); clear ho5 hb5 R14 D14 E14 L14; obtain ⟨c0, c1, c2, c3, c4, c5, c6⟩ := R5.out.1.seven)
    refine Calls.mono (low4 n _ (by rfl) (by have := HX.out; omega) _) ?_
    rintro e w15 ⟨A15, k15, rfl, hk15, ho15, b15⟩
    have R15 := Lib.hid (R5.out.below b15)
    have D15 := Lib.hid ho15.rd
    rw [lowN_len]
    have E15 := Lib.hid (show headB ep s l n 1 wd lg 6 = headB ep s l n 1 wd lg 5 ++ lowN (BitVec.ofNat 64 n) 4 from headB_succ ep s l n 1 wd lg 5 _ _ rfl)
    have L15 := Lib.hid (show (headB ep s l n 1 wd lg 5).length + (lowN (BitVec.ofNat 64 n) 4).length ≤ 4294967296 from by have := HH.out 5 (by decide); rw [lowN_len]; omega)
    clear hk15 ho15 b15 R5 c0 c1 c2 c3 c4 c5 c6
    go_wp2_with (at_builtin; refine wp_app one8 b8_one rfl (.tmp 55) (.tmp 60) rfl (w.heap.size + 1) v5 (headB ep s l n 1 wd lg 5) rfl R15.out.2.1 A15 4 k15 (lowN (BitVec.ofNat 64 n) 4) rfl (lowN_len _ _).symm _ D15.out L15.out (by decide) R15.out.lt ?_; intro v6 w6 ho6 hb6 _ _; have R6 := Lib.hid (R15.out.app hb6 (E15.out.symm ▸ ho6)); clear ho6 hb6 R15 D15 E15 L15; obtain ⟨c0, c1, c2, c3, c4, c5, c6⟩ := R6.out.1.seven)
    refine Calls.mono (low4 1 _ (by rfl) (by have := HX.out; omega) _) ?_
    rintro e w16 ⟨A16, k16, rfl, hk16, ho16, b16⟩
    have R16 := Lib.hid (R6.out.below b16)
    have D16 := Lib.hid ho16.rd
    rw [lowN_len]
    have E16 := Lib.hid (show headB ep s l n 1 wd lg 7 = headB ep s l n 1 wd lg 6 ++ lowN (BitVec.ofNat 64 1) 4 from headB_succ ep s l n 1 wd lg 6 _ _ rfl)
    have L16 := Lib.hid (show (headB ep s l n 1 wd lg 6).length + (lowN (BitVec.ofNat 64 1) 4).length ≤ 4294967296 from by have := HH.out 6 (by decide); rw [lowN_len]; omega)
    clear hk16 ho16 b16 R6 c0 c1 c2 c3 c4 c5 c6
    go_wp2_with (at_builtin; refine wp_app one8 b8_one rfl (.tmp 62) (.tmp 66) rfl (w.heap.size + 1) v6 (headB ep s l n 1 wd lg 6) rfl R16.out.2.1 A16 4 k16 (lowN (BitVec.ofNat 64 1) 4) rfl (lowN_len _ _).symm _ D16.out L16.out (by decide) R16.out.lt ?_; intro v7 w7 ho7 hb7 _ _; have R7 := Lib.hid (R16.out.app hb7 (E16.out.symm ▸ ho7)); clear ho7 hb7 R16 D16 E16 L16; obtain ⟨c0, c1, c2, c3, c4, c5, c6⟩ := R7.out.1.seven)
    refine Calls.mono (low4 wd _ (by rfl) (by have := HX.out; omega) _) ?_
    rintro e w17 ⟨A17, k17, rfl, hk17, ho17, b17⟩
    have R17 := Lib.hid (R7.out.below b17)
    have D17 := Lib.hid ho17.rd
    rw [lowN_len]
    have E17 := Lib.hid (show headB ep s l n 1 wd lg 8 = headB ep s l n 1 wd lg 7 ++ lowN (BitVec.ofNat 64 wd) 4 from headB_succ ep s l n 1 wd lg 7 _ _ rfl)
    have L17 := Lib.hid (show (headB ep s l n 1 wd lg 7).length + (lowN (BitVec.ofNat 64 wd) 4).length ≤ 4294967296 from by have := HH.out 7 (by decide); rw [lowN_len]; omega)
    clear hk17 ho17 b17 R7 c0 c1 c2 c3 c4 c5 c6
    go_wp2_with (at_builtin; refine wp_app one8 b8_one rfl (.tmp 68) (.tmp 72) rfl (w.heap.size + 1) v7 (headB ep s l n 1 wd lg 7) rfl R17.out.2.1 A17 4 k17 (lowN (BitVec.ofNat 64 wd) 4) rfl (lowN_len _ _).symm _ D17.out L17.out (by decide) R17.out.lt ?_; intro v8 w8 ho8 hb8 _ _; have R8 := Lib.hid (R17.out.app hb8 (E17.out.symm ▸ ho8)); clear ho8 hb8 R17 D17 E17 L17; obtain ⟨c0, c1, c2, c3, c4, c5, c6⟩ := R8.out.1.seven)
    refine Calls.mono (low8 lg _) ?_
    rintro e w18 ⟨A18, k18, rfl, hk18, ho18, b18⟩
    have R18 := Lib.hid (R8.out.below b18)
    have D18 := Lib.hid ho18.rd
    rw [lowN_len]
    have E18 := Lib.hid (show headB ep s l n 1 wd lg 9 = headB ep s l n 1 wd lg 8 ++ lowN (lg) 8 from headB_succ ep s l n 1 wd lg 8 _ _ rfl)
    have L18 := Lib.hid (show (headB ep s l n 1 wd lg 8).length + (lowN (lg) 8).length ≤ 4294967296 from by have := HH.out 8 (by decide); rw [lowN_len]; omega)
    clear hk18 ho18 b18 R8 c0 c1 c2 c3 c4 c5 c6
    go_wp2_with (at_builtin; refine wp_app one8 b8_one rfl (.tmp 74) (.tmp 77) rfl (w.heap.size + 1) v8 (headB ep s l n 1 wd lg 8) rfl R18.out.2.1 A18 8 k18 (lowN (lg) 8) rfl (lowN_len _ _).symm _ D18.out L18.out (by decide) R18.out.lt ?_; intro v9 w9 ho9 hb9 _ _; have R9 := Lib.hid (R18.out.app hb9 (E18.out.symm ▸ ho9)); clear ho9 hb9 R18 D18 E18 L18; obtain ⟨c0, c1, c2, c3, c4, c5, c6⟩ := R9.out.1.seven)
    have HL9 := Lib.hid (headB_full ep s l n 1 wd lg)
    clear c0 c1 c2 c3 c4 c5 c6 HI HO HNw HH H2 HK1 HB1
    go_loopw [4] (fun ov wr => ∃ j : Nat, 44 + j ≤ s - 4 ∧ Hid (RefB w wr #[.int .u64 (U64 ep), .int .i64 (s : Int), .int .i64 (l : Int), .int .i64 (n : Int), .int .i64 (1 : Int), .int .i64 (wd : Int), .int .u64 (U64 lg)] ov (headB ep s l n 1 wd lg 9 ++ List.replicate j 0#8))) (fun ov _ => s - lenV ov)
    case atStart => exact ⟨0, by have := HX.out; omega, Lib.hid (by rw [List.replicate_zero, List.append_nil]; exact R9.out)⟩
    case round =>
      obtain ⟨j, hj, hR⟩ := hrel
      clear R9
      obtain ⟨A4, k4, rfl, hk4⟩ := hR.out.2.1.form
      obtain ⟨N, hN⟩ : ∃ N, N = (headB ep s l n 1 wd lg 9 ++ List.replicate j 0#8).length := ⟨_, rfl⟩
      have hN2 : N = 44 + j := by rw [hN, List.length_append, HL9.out, List.length_replicate]
      rw [← hN] at hR ⊢
      have HN := Lib.hid hN
      clear hk4 hN
      obtain ⟨c0, c1, c2, c3, c4, c5, c6⟩ := hR.out.1.seven
      have hNI : (N : Int) = 44 + (j : Int) := by omega
      have HN2 := Lib.hid hN2
      clear hN2
      by_cases hlt : 44 + j < s - 4
      · have t1 : (N : Int) < (s : Int) - 4 := by omega
        have HNI := Lib.hid hNI
        clear hNI
        have R8 := Lib.hid (hR.out.below (Gw.alloc wr (.cells #[.int .u8 0] 5)))
        have D8 := Lib.hid (show Rd b8 (wr.alloc (.cells #[.int .u8 0] 5)) (wr.alloc (.cells #[.int .u8 0] 5)).heap.size (some ⟨wr.heap.size, 0, none⟩) [0#8] from fun k hk => by
          have h0 : k = 0 := by simpa using hk
          subst h0
          exact ⟨_, rfl, by simp, new_mark wr 5 [.int .u8 0] (0, 0) wr.heap.size rfl 0 _ rfl⟩)
        have L8 := Lib.hid (show (headB ep s l n 1 wd lg 9 ++ List.replicate j 0#8).length + [0#8].length ≤ 4294967296 from by rw [← HN.out, HN2.out]; simp; have := HX.out; omega)
        go_wp2_with (at_builtin; refine wp_app one8 b8_one rfl (.tmp 86) (.tmp 87) rfl (w.heap.size + 1) (.slice A4 N k4) (headB ep s l n 1 wd lg 9 ++ List.replicate j 0#8) rfl R8.out.2.1 (some ⟨wr.heap.size, 0, none⟩) 1 1 [0#8] rfl rfl _ D8.out L8.out (by decide) R8.out.lt ?_; intro vN wN hoN hbN _ _; have RN := Lib.hid (R8.out.app hbN hoN); clear hoN hbN R8 D8 L8)
        obtain ⟨A5, k5, rfl, hk5⟩ := RN.out.2.1.form
        have hl5 : (headB ep s l n 1 wd lg 9 ++ List.replicate j 0#8 ++ [0#8]).length = N + 1 := by rw [List.length_append, ← HN.out]; rfl
        rw [hl5] at RN ⊢
        go_roundw
        case rel => exact ⟨j + 1, by omega, Lib.hid (by have h := RN.out; rw [List.append_assoc, ← List.replicate_succ'] at h; exact h)⟩
        case measure => (have h1 := HN2.out; have h2 : N < s := (by omega); simp [lenV]; try omega)
      · have hje : j = s - 4 - 44 := by omega
        have t1 : ¬ (N : Int) < (s : Int) - 4 := by omega
        have HS := Lib.hid (rseal_c (secB ep s l n 1 wd lg) A4 k4 wr (by have h := hR.out.2.1; rw [HN.out] at h; have h2 := h.rd; rw [hje] at h2; exact h2) (by unfold secB; rw [List.length_append, HL9.out, List.length_replicate]; have := HX.out; omega))
        have hls : (secB ep s l n 1 wd lg).length = N := by unfold secB; rw [← hje]; exact HN.out.symm
        rw [hls] at HS
        have HNI := Lib.hid hNI
        have HJE := Lib.hid hje
        clear hNI hje
        go_wp2_with fail
        refine Calls.mono HS.out ?_
        rintro e wz ⟨AZ, kZ, rfl, hkZ, hoZ, bZ⟩
        have HZ := Lib.hid (And.intro hkZ (And.intro hoZ (hR.out.2.2.trans (bZ.mono hR.out.2.2.size))))
        have HZB := Lib.hid hR.out.2.2.size
        clear bZ hkZ hoZ
        obtain ⟨NZ, hNZ⟩ : ∃ N, N = (sealC (secB ep s l n 1 wd lg)).length := ⟨_, rfl⟩
        rw [← hNZ] at HZ ⊢
        go_wp2_with fail
        go_ret2
        refine ⟨AZ, kZ, rfl, by have h := HZ.out.1; rw [hNZ] at h; exact h, by have h := HZ.out.2.1; rw [hNZ] at h; exact h.rd, HZ.out.2.2, fun a ha => ?_⟩
        rcases HZ.out.2.1.2 with ⟨e, _⟩ | ⟨gq, cap, cur, e, hq, _⟩
        · injection e with e1
          rw [ha] at e1
          cases e1
        · injection e with e1
          rw [ha] at e1
          injection e1 with e1
          rw [e1]
          exact Nat.le_trans HZB.out hq
end Go.Proofs.Ytjdifejnnkplaaa
