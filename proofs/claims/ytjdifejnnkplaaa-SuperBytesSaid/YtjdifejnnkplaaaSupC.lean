/- What sup.Encode answers of a block that may be. No conditions but on the numbers. -/
import Derived.Test.YtjdifejnnkplaaaSupB
namespace Go.Proofs.Ytjdifejnnkplaaa
set_option linter.unusedVariables false
set_option linter.unusedSimpArgs false
open Go.RowKit
set_option maxRecDepth 100000
set_option maxHeartbeats 800000
theorem lowN_snoc6 (x : BitVec 64) (j : Nat) : lowN x (j + 1) = lowN x j ++ [(x >>> (8 * j)).setWidth 8] := by
  unfold lowN
  rw [List.range_succ, List.map_append]
  rfl
/-- The sector's bytes, but for its sum. -/
def secB (ep : BitVec 64) (s l n sp wd : Nat) (lg : BitVec 64) : List (BitVec 8) := headB ep s l n sp wd lg 9 ++ List.replicate (s - 4 - 44) 0#8
def encSB (ep : BitVec 64) (s l n sp wd : Nat) (lg : BitVec 64) : List (BitVec 8) := sealC (secB ep s l n sp wd lg)
def goodS (s l n sp wd : Nat) : Prop := okG s l n = true ∧ sp ≤ 1 ∧ wd ≤ n
def Enc6P (bs : List (BitVec 8)) (w : World) (e : Ending) (w' : World) : Prop := ∃ A c, e = .returned (.tuple #[.slice A bs.length c, .int .i64 0]) ∧ bs.length ≤ c ∧ Rd b8 w' w'.heap.size A bs ∧ Below w.heap.size w w' ∧ ∀ a, A = some a → w.heap.size ≤ a.block
/-- The block, and the row, of a walk through Encode. -/
def SupR (w : World) (g S : Nat) (xs : List (BitVec 8)) (cs : Array Value) (wr : World) : Prop := RowS wr g S xs ∧ Bk wr w.heap.size 26 cs ∧ w.heap.size < g ∧ Below w.heap.size w wr
theorem SupR.step {w wr : World} {g S m : Nat} {xs : List (BitVec 8)} {cs : Array Value} (h : SupR w g S xs cs wr) (hm : m = xs.length) (hl : m < S) (y : BitVec 8) (o : Obj) : SupR w g S (xs ++ [y]) cs ((wr.setCell ⟨g, m, none⟩ (b8 y)).alloc o) := by
  subst hm
  obtain ⟨h1, h2, h3, h4⟩ := h
  refine ⟨⟨by simp; omega, ?_⟩, (h2.far (p := ⟨g, xs.length, none⟩) (by simp; omega) _).alloc _, h3, ?_⟩
  · have k := h1.bk.set xs.length (b8 y)
    rw [show S - xs.length = (S - (xs.length + 1)) + 1 from by omega, rowC_set] at k
    rw [List.length_append]
    exact k.alloc _
  · have k := h4.setCell (p := ⟨g, xs.length, none⟩) (Nat.le_of_lt h3) (b8 y)
    exact k.trans ((Gw.alloc _ _).mono k.size)
theorem secB_len (ep : BitVec 64) (s l n sp wd : Nat) (lg : BitVec 64) (h : 64 ≤ s) : (secB ep s l n sp wd lg).length = s - 4 := by
  unfold secB
  rw [List.length_append, headB_full, List.length_replicate]
  omega
theorem sec_rd {W : World} {g s : Nat} {ep : BitVec 64} {l n sp wd : Nat} {lg : BitVec 64} (h : RowS W g s (headB ep s l n sp wd lg 9)) (hs : 64 ≤ s) : Rd b8 W W.heap.size (some ⟨g, 0, none⟩) (secB ep s l n sp wd lg) := by
  have k := h.bk
  rw [headB_full] at k
  have h1 := (k.rd (f := b8) (xs := headB ep s l n sp wd lg 9 ++ List.replicate (s - 44) 0#8) rfl k.lt).take (s - 4)
  have e : (headB ep s l n sp wd lg 9 ++ List.replicate (s - 44) 0#8).take (s - 4) = secB ep s l n sp wd lg := by
    unfold secB
    rw [List.take_append, List.take_of_length_le (by rw [headB_full]; omega), headB_full, List.take_replicate, show min (s - 4 - 44) (s - 44) = s - 4 - 44 from by omega]
  rw [e] at h1
  exact h1
theorem enc6_ok (ep : BitVec 64) (s l n sp wd : Nat) (lg : BitVec 64) (w : World) (h : goodS s l n sp wd) : Calls Try.prog 9 #[blkV ep s l n sp wd lg] w (Enc6P (encSB ep s l n sp wd lg) w) := by
  obtain ⟨hg, hsp, hwd⟩ := h
  have og := okG_out hg
  have b1 := og.s1
  have b2 := og.s2
  have b3 := og.l2
  have b4 := og.n2
  have b5 := og.l1
  have b6 := og.n1
  have HC := Lib.hid (fun W => check_c (s : Int) l n W)
  have hc : chkG s l n = (if okG s l n then 0 else 1) := rfl
  rw [hg] at hc
  simp only [if_true] at hc
  rw [hc] at HC
  unfold gV at HC
  have HNm := Lib.hid (fun W => numbers_c ep s l n sp wd lg W (by omega) (by omega) (by omega) (by omega) (by omega))
  have HIx := Lib.hid (idx9 ep s l n sp wd lg (by omega) (by omega) (by omega) (by omega) (by omega))
  have HS44 := Lib.hid (show 64 ≤ s ∧ s ≤ 1024 from by omega)
  have HK := Lib.hid (Bk.new w 26 #[.int .u64 (U64 ep), .int .i64 (s : Int), .int .i64 (l : Int), .int .i64 (n : Int), .int .i64 (sp : Int), .int .i64 (wd : Int), .int .u64 (U64 lg)])
  have HB := Lib.hid (Gw.alloc w (.cells #[.int .u64 (U64 ep), .int .i64 (s : Int), .int .i64 (l : Int), .int .i64 (n : Int), .int .i64 (sp : Int), .int .i64 (wd : Int), .int .u64 (U64 lg)] 26))
  obtain ⟨c0, c1, c2, c3, c4, c5, c6⟩ := HK.out.seven
  obtain ⟨NV, hNV⟩ : ∃ v, v = numsV ep s l n sp wd lg := ⟨_, rfl⟩
  have q1 : ¬ (sp : Int) < 0 := by omega
  have q2 : ¬ 1 < (sp : Int) := by omega
  have q3 : ¬ (wd : Int) < 0 := by omega
  have q4 : ¬ (n : Int) < (wd : Int) := by omega
  have hmk : ∀ W : World, (Instr.makeSlice 29 (.int .i64 0) (.int .i64 (s : Int))).run Try.prog W = .ok (.slice (some ⟨W.heap.size, 0, none⟩) 0 s) (W.alloc (.cells (rowC [] s) 5)) := by
    intro W
    obtain ⟨i, hi, hz, hsz, hby⟩ := one8.info
    have h := run_make (P := Try.prog) W 29 5 i (.int .u8 0) one8.under hi hz .i64 .i64 0 (s : Int) (by omega) (by omega) (by rw [hby]; omega) (by omega)
    rw [hsz] at h
    rw [h, show ((s : Int)).toNat = s from by omega, made_row]
    rfl
  clear hg og hsp hwd hc
  unfold blkV at HNm ⊢
  go_enter Try.func9, Try.ntmps9
  go_wp2_with fail
  refine Calls.mono (HC.out _) ?_
  rintro e w1 ⟨rfl, b1'⟩
  have HB1 := Lib.hid (HB.out.trans (b1'.mono HB.out.size))
  have HK1 := Lib.hid (HK.out.below b1' HK.out.lt)
  clear b1' c0 c1 c2 c3 c4 c5 c6
  obtain ⟨c0, c1, c2, c3, c4, c5, c6⟩ := HK1.out.seven
  have hz := HK1.out.lt
  go_wp2_with fail
  refine Calls.mono (HNm.out _) ?_
  rintro e w2 ⟨rfl, b2'⟩
  rw [← hNV] at HIx ⊢
  obtain ⟨g, hg⟩ : ∃ g, g = w1.heap.size := ⟨_, rfl⟩
  have HS2 := Lib.hid (show SupR w g s (headB ep s l n sp wd lg 0) #[.int .u64 (U64 ep), .int .i64 (s : Int), .int .i64 (l : Int), .int .i64 (n : Int), .int .i64 (sp : Int), .int .i64 (wd : Int), .int .u64 (U64 lg)] w2 from by
    refine ⟨⟨by simp [headB], ?_⟩, (HK1.out.alloc _).below b2' (by simp; omega), by omega, (HB1.out.trans ((Gw.alloc w1 _).mono HB1.out.size)).trans (b2'.mono (by have := HB1.out.size; simp; omega))⟩
    rw [hg]
    exact (Bk.new w1 5 (rowC [] s)).below b2' (by simp))
  rw [← hg]
  clear b2' hg c0 c1 c2 c3 c4 c5 c6 hmk HC HNm HK1 hNV hz HB1
  go_wp2_with fail
  go_loopw [41, 4] (fun k v wr => ∃ (j : Nat) (m : Nat), k = .int .i64 j ∧ v = .slice (some ⟨g, 0, none⟩) m s ∧ j ≤ 9 ∧ Hid (m = (headB ep s l n sp wd lg j).length) ∧ Hid (SupR w g s (headB ep s l n sp wd lg j) #[.int .u64 (U64 ep), .int .i64 (s : Int), .int .i64 (l : Int), .int .i64 (n : Int), .int .i64 (sp : Int), .int .i64 (wd : Int), .int .u64 (U64 lg)] wr)) (fun k _ _ => 9 - (intOf k).toNat)
  case atStart => exact ⟨0, 0, rfl, rfl, Nat.zero_le _, Lib.hid rfl, HS2⟩
  case round =>
    obtain ⟨W0, rfl⟩ : ∃ x, x = wr := ⟨wr, rfl⟩
    obtain ⟨j, m, rfl, rfl, hj, hm, hS⟩ := hrel
    by_cases hlt : j < 9
    · obtain ⟨v, b, hvb, hb8, hix⟩ := HIx.out j hlt
      have HSC := Lib.hid (headB_succ ep s l n sp wd lg j v b hvb)
      have HL9 := Lib.hid (headB_len ep s l n sp wd lg (j + 1) (by omega))
      have p1 : (0 : Int) ≤ (j : Int) := by omega
      have p2 : (j : Int) < 9 := by omega
      obtain ⟨hB, hHB⟩ : ∃ x, x = headB ep s l n sp wd lg j := ⟨_, rfl⟩
      rw [← hHB] at hm hS HSC
      clear hvb hHB
      go_wp2_with fail
      have HSI := Lib.hid (show SupR w g s (hB ++ lowN v 0) #[.int .u64 (U64 ep), .int .i64 (s : Int), .int .i64 (l : Int), .int .i64 (n : Int), .int .i64 (sp : Int), .int .i64 (wd : Int), .int .u64 (U64 lg)] (W0.alloc (.cells #[.int .u64 (U64 v), .int .i64 (b : Int)] 52)) from by
        rw [show lowN v 0 = [] from rfl, List.append_nil]
        exact ⟨⟨hS.out.1.le, hS.out.1.bk.alloc _⟩, hS.out.2.1.alloc _, hS.out.2.2.1, hS.out.2.2.2.trans ((Gw.alloc W0 _).mono hS.out.2.2.2.size)⟩)
      have HQ := Lib.hid (Bk.new W0 52 #[.int .u64 (U64 v), .int .i64 (b : Int)])
      have HQG := Lib.hid (show g < W0.heap.size from hS.out.1.bk.lt)
      obtain ⟨q, hq⟩ : ∃ q, q = W0.heap.size := ⟨_, rfl⟩
      rw [← hq] at HQ HQG ⊢
      have HQ2 := Lib.hid hq
      have hM0 := Lib.hid (show m = (hB ++ lowN v 0).length from by rw [hm.out]; simp [lowN])
      clear hq hS
      go_loopw [46, 4] (fun k u wr => ∃ (i : Nat) (m : Nat), k = .int .i64 i ∧ u = .slice (some ⟨g, 0, none⟩) m s ∧ i ≤ b ∧ Hid (m = (hB ++ lowN v i).length) ∧ Hid (SupR w g s (hB ++ lowN v i) #[.int .u64 (U64 ep), .int .i64 (s : Int), .int .i64 (l : Int), .int .i64 (n : Int), .int .i64 (sp : Int), .int .i64 (wd : Int), .int .u64 (U64 lg)] wr) ∧ Hid (Bk wr q 52 #[.int .u64 (U64 v), .int .i64 (b : Int)])) (fun k _ _ => b - (intOf k).toNat)
      case atStart => exact ⟨0, m, rfl, rfl, Nat.zero_le _, hM0, HSI, HQ⟩
      case round =>
        obtain ⟨i, m1, rfl, rfl, hi, hm1, hS1, hQ1⟩ := hrel
        by_cases hib : i < b
        · have hml : m1 < 44 := by
            have := hm1.out
            have h2 := HL9.out
            rw [HSC.out] at h2
            rw [List.length_append, lowN_len] at h2 this
            omega
          have hms : m1 + 1 ≤ s := by have := HS44.out; omega
          have d0 : wr.cell? ⟨g, m1, none⟩ = some (.int .u8 0) := by
            have h2 := hS1.out.1.bk.cell m1
            rw [h2, show s - (hB ++ lowN v i).length = (s - m1 - 1) + 1 from by rw [← hm1.out]; omega]
            have h3 := rowC_at (hB ++ lowN v i) (s - m1 - 1)
            rw [← hm1.out] at h3
            rw [h3]
            rfl
          have d1 := hS1.out.1.bk.free m1
          have d2 := hS1.out.1.bk.lt
          have n0 := hQ1.out.cell 0
          have n1 := hQ1.out.cell 1
          have q1 : (0 : Int) ≤ 8 * (i : Int) := by omega
          have q2 : 8 * (i : Int) < 64 := by omega
          have w8 : IntKind.i64.wrap (8 * (i : Int)) = 8 * (i : Int) := wrapIn (by omega) (by omega)
          have n8 : (8 * (i : Int)).toNat = 8 * i := by omega
          have y1 := u64_u8 (v >>> (8 * i))
          have y2 := u64_u8m (v >>> (8 * i))
          have y3 := shrU64 v (8 * i)
          obtain ⟨y, hy⟩ : ∃ y, y = (v >>> (8 * i)).setWidth 8 := ⟨_, rfl⟩
          rw [← hy] at y1 y2
          have HY : Hid (lowN v (i + 1) = lowN v i ++ [y]) := Lib.hid (by rw [lowN_snoc6, hy])
          have p5 : (i : Int) < (b : Int) := by omega
          clear hy
          go_wp2_with fail
          have hS3 := Lib.hid (hS1.out.step hm1.out (by omega) y (.cells #[.int .u8 (U8 y)] 5))
          have hQ3 := Lib.hid ((hQ1.out.far (p := ⟨g, m1, none⟩) (show q ≠ g from by have := HQG.out; omega) (b8 y)).alloc (.cells #[.int .u8 (U8 y)] 5))
          go_roundw
          case rel => exact ⟨i + 1, m1 + 1, by go_num, rfl, by omega, Lib.hid (by rw [HY.out, ← List.append_assoc, List.length_append, ← hm1.out]; rfl), by rw [HY.out, ← List.append_assoc]; exact hS3, hQ3⟩
          case measure => (first | (simp [intOf]; done) | (simp [intOf]; omega))
        · have hibe : i = b := by omega
          subst hibe
          rw [← HSC.out] at hm1 hS1
          go_wp2_with fail
          go_roundw
          case rel => exact ⟨j + 1, m1, by go_num, rfl, by omega, hm1, hS1⟩
          case measure => (first | (simp [intOf]; done) | (simp [intOf]; omega))
    · have hj9 : j = 9 := by omega
      subst hj9
      have hm44 : m = 44 := by rw [hm.out, headB_full]
      clear hm
      subst hm44
      have HRd := Lib.hid (sec_rd hS.out.1 HS44.out.1)
      have HSl := Lib.hid (seal_c (secB ep s l n sp wd lg) (some ⟨g, 0, none⟩) s W0 HRd.out (by rw [secB_len _ _ _ _ _ _ _ HS44.out.1]; have := HS44.out; omega))
      rw [secB_len _ _ _ _ _ _ _ HS44.out.1] at HSl
      obtain ⟨c0, c1, c2, c3, c4, c5, c6⟩ := hS.out.2.1.seven
      have HBE := Lib.hid hS.out.2.2.2
      have r1 : (0 : Int) ≤ (s : Int) - 4 := by omega
      have r2 : (s : Int) - 4 ≤ (s : Int) := by omega
      have r3 : ((s : Int) - 4).toNat = s - 4 := by omega
      clear hS HIx
      go_wp2_with fail
      refine Calls.mono HSl.out ?_
      rintro e w5 ⟨A5, c5', rfl, hc5, ho5, b5'⟩
      have HF := Lib.hid (show Enc6P (encSB ep s l n sp wd lg) w (.returned (.tuple #[.slice A5 (sealC (secB ep s l n sp wd lg)).length c5', .int .i64 0])) w5 from ⟨A5, c5', rfl, hc5, ho5.rd, HBE.out.trans (b5'.mono HBE.out.size), fun a e => Nat.le_trans HBE.out.size (World.ownsRow.lt ho5 a.block (by rw [e]; rfl)).1⟩)
      obtain ⟨m5, hm5⟩ : ∃ m, m = (sealC (secB ep s l n sp wd lg)).length := ⟨_, rfl⟩
      rw [← hm5] at HF ⊢
      clear hc5 ho5 b5' hm5 c0 c1 c2 c3 c4 c5 c6
      go_wp2_with fail
      go_ret2
      exact HF.out
end Go.Proofs.Ytjdifejnnkplaaa
