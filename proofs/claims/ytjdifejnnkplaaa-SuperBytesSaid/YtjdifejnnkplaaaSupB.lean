/- What sup.Encode answers. No conditions but on the numbers. -/
import Derived.Test.YtjdifejnnkplaaaSupA
namespace Go.Proofs.Ytjdifejnnkplaaa
set_option linter.unusedVariables false
set_option linter.unusedSimpArgs false
open Go.RowKit
set_option maxRecDepth 100000
set_option maxHeartbeats 800000
theorem enc6_bad (ep : BitVec 64) (s l n sp wd : Int) (lg : BitVec 64) (w : World) (h : badS s l n sp wd) : Calls Try.prog 9 #[blkV ep s l n sp wd lg] w (RetP (.tuple #[.slice none 0 0, .int .i64 1]) w) := by
  have HC := Lib.hid (fun W => check_c s l n W)
  have HK := Lib.hid (Bk.new w 26 #[.int .u64 (U64 ep), .int .i64 s, .int .i64 l, .int .i64 n, .int .i64 sp, .int .i64 wd, .int .u64 (U64 lg)])
  have HB := Lib.hid (Gw.alloc w (.cells #[.int .u64 (U64 ep), .int .i64 s, .int .i64 l, .int .i64 n, .int .i64 sp, .int .i64 wd, .int .u64 (U64 lg)] 26))
  obtain ⟨c0, c1, c2, c3, c4, c5, c6⟩ := HK.out.seven
  unfold blkV
  unfold gV at HC
  rcases (show okG s l n = false ∨ (okG s l n = true ∧ sp < 0) ∨ (okG s l n = true ∧ ¬ sp < 0 ∧ 1 < sp) ∨ (okG s l n = true ∧ ¬ sp < 0 ∧ ¬ 1 < sp ∧ wd < 0) ∨ (okG s l n = true ∧ ¬ sp < 0 ∧ ¬ 1 < sp ∧ ¬ wd < 0 ∧ n < wd) from by
    unfold badS at h
    by_cases hg : okG s l n = true
    · right
      have h2 : sp < 0 ∨ 1 < sp ∨ wd < 0 ∨ n < wd := by
        rcases h with h | h
        · rw [hg] at h; cases h
        · exact h
      simp only [hg, true_and]
      omega
    · exact .inl (by simpa using hg)) with hg | ⟨hg, h1⟩ | ⟨hg, h1, h2⟩ | ⟨hg, h1, h2, h3⟩ | ⟨hg, h1, h2, h3, h4⟩
  all_goals
    have hc : chkG s l n = (if okG s l n then 0 else 1) := rfl
    rw [hg] at hc
    simp only [Bool.false_eq_true, if_false, if_true] at hc
    rw [hc] at HC
    clear hc hg h
    go_enter Try.func9, Try.ntmps9
    go_wp2_with fail
    refine Calls.mono (HC.out _) ?_
    rintro e w1 ⟨rfl, b1⟩
    have HB1 := Lib.hid (HB.out.trans (b1.mono HB.out.size))
    have HK1 := Lib.hid (HK.out.below b1 HK.out.lt)
    clear b1 c0 c1 c2 c3 c4 c5 c6
    obtain ⟨c0, c1, c2, c3, c4, c5, c6⟩ := HK1.out.seven
    go_wp2_with fail
    go_ret2
    exact ⟨rfl, HB1.out⟩
def headB (ep : BitVec 64) (s l n sp wd : Nat) (lg : BitVec 64) (k : Nat) : List (BitVec 8) := ((numsL ep s l n sp wd lg).take k).flatMap fun p => lowN p.1 p.2
theorem headB_len (ep : BitVec 64) (s l n sp wd : Nat) (lg : BitVec 64) (k : Nat) (h : k ≤ 9) : (headB ep s l n sp wd lg k).length ≤ 44 := by
  unfold headB numsL
  match k, h with
  | 0, _ | 1, _ | 2, _ | 3, _ | 4, _ | 5, _ | 6, _ | 7, _ | 8, _ | 9, _ => simp [lowN]
theorem headB_full (ep : BitVec 64) (s l n sp wd : Nat) (lg : BitVec 64) : (headB ep s l n sp wd lg 9).length = 44 := by
  unfold headB numsL
  simp [lowN]
theorem headB_succ (ep : BitVec 64) (s l n sp wd : Nat) (lg : BitVec 64) (k : Nat) (v : BitVec 64) (b : Nat) (h : (numsL ep s l n sp wd lg)[k]? = some (v, b)) : headB ep s l n sp wd lg (k + 1) = headB ep s l n sp wd lg k ++ lowN v b := by
  unfold headB
  rw [List.take_add_one, h]
  simp
/-- A row of bytes with noughts behind, as cells. -/
def rowC (xs : List (BitVec 8)) (m : Nat) : Array Value := ((xs ++ List.replicate m 0#8).map b8).toArray
theorem rowC_set (xs : List (BitVec 8)) (m : Nat) (y : BitVec 8) : (rowC xs (m + 1)).setIfInBounds xs.length (b8 y) = rowC (xs ++ [y]) m := by
  unfold rowC
  rw [List.setIfInBounds_toArray, ← List.map_set]
  congr 2
  rw [List.set_append_right _ _ (Nat.le_refl _), Nat.sub_self, List.replicate_succ, List.set_cons_zero]
  simp
theorem rowC_at (xs : List (BitVec 8)) (m : Nat) : (rowC xs (m + 1))[xs.length]? = some (b8 0#8) := by
  unfold rowC
  simp
theorem made_row (S : Nat) : madeCells (Value.int .u8 0).cells (S * 1) = rowC [] S := by
  apply Array.ext
  · simp [madeCells, rowC]
  · intro i h1 h2
    simp [madeCells, rowC, b8, Value.cells, Nat.mod_one]
    rfl
/-- A row under way: at block g, the bytes xs, room for S. -/
structure RowS (W : World) (g S : Nat) (xs : List (BitVec 8)) : Prop where
  le : xs.length ≤ S
  bk : Bk W g 5 (rowC xs (S - xs.length))
theorem RowS.step {W : World} {g S : Nat} {xs : List (BitVec 8)} (h : RowS W g S xs) (hl : xs.length < S) (y : BitVec 8) (o : Obj) : RowS ((W.alloc o).setCell ⟨g, xs.length, none⟩ (b8 y)) g S (xs ++ [y]) := by
  refine ⟨by simp; omega, ?_⟩
  have h1 := (h.bk.alloc o).set xs.length (b8 y)
  rw [show S - xs.length = (S - (xs.length + 1)) + 1 from by omega, rowC_set] at h1
  rw [List.length_append]
  exact h1
end Go.Proofs.Ytjdifejnnkplaaa
