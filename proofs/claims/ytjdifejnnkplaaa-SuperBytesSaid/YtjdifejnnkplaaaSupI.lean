/- What loamref6.Encode answers. No conditions but on the numbers. -/
import Derived.Test.YtjdifejnnkplaaaSupC
import Derived.Test.YtjdifejnnkplaaaGeomT
import Derived.Test.YtjdifejnnkplaaaCrcF
import Derived.Test.YtjdifejnnkplaaaBitsB
import Derived.Lib.SmallJoins
import Derived.ArgAppend
namespace Go.Proofs.Ytjdifejnnkplaaa
set_option linter.unusedVariables false
set_option linter.unusedSimpArgs false
open Go.RowKit
set_option maxRecDepth 100000
set_option maxHeartbeats 800000
theorem low_nat (n : Nat) (k : Nat) (hn : n < 2 ^ 64) (hk : k ≤ 8) (w : World) : Calls Try.prog 21 #[.int .u64 (n : Int), .int .i64 k] w (MkP b8 5 (lowN (BitVec.ofNat 64 n) k) w) := by
  have h := low_c (BitVec.ofNat 64 n) k hk w
  rwa [u64nat n hn] at h
theorem renc6_bad (ep : BitVec 64) (s l n sp wd : Int) (lg : BitVec 64) (w : World) (h : badS s l n sp wd) : Calls Try.prog 10 #[blkV ep s l n sp wd lg] w (RetP (.tuple #[.slice none 0 0, .int .i64 1]) w) := by
  have HC := Lib.hid (fun W => rcheck_c s l n W)
  have HK := Lib.hid (Bk.new w 37 #[.int .u64 (U64 ep), .int .i64 s, .int .i64 l, .int .i64 n, .int .i64 sp, .int .i64 wd, .int .u64 (U64 lg)])
  have HB := Lib.hid (Gw.alloc w (.cells #[.int .u64 (U64 ep), .int .i64 s, .int .i64 l, .int .i64 n, .int .i64 sp, .int .i64 wd, .int .u64 (U64 lg)] 37))
  obtain ⟨c0, c1, c2, c3, c4, c5, c6⟩ := HK.out.seven
  unfold blkV
  unfold gV at HC
  rcases (show okG s l n = false ∨ (okG s l n = true ∧ ¬ sp = 0 ∧ ¬ sp = 1) ∨ (okG s l n = true ∧ sp = 0 ∧ wd < 0) ∨ (okG s l n = true ∧ sp = 1 ∧ wd < 0) ∨ (okG s l n = true ∧ sp = 0 ∧ ¬ wd < 0 ∧ n < wd) ∨ (okG s l n = true ∧ sp = 1 ∧ ¬ wd < 0 ∧ n < wd) from by
    unfold badS at h
    by_cases hg : okG s l n = true
    · right
      have h2 : sp < 0 ∨ 1 < sp ∨ wd < 0 ∨ n < wd := by
        rcases h with h | h
        · rw [hg] at h; cases h
        · exact h
      simp only [hg, true_and]
      by_cases h3 : sp = 0
      · by_cases h4 : wd < 0
        · exact .inr (.inl ⟨h3, h4⟩)
        · exact .inr (.inr (.inr (.inl ⟨h3, h4, by omega⟩)))
      · by_cases h5 : sp = 1
        · by_cases h4 : wd < 0
          · exact .inr (.inr (.inl ⟨h5, h4⟩))
          · exact .inr (.inr (.inr (.inr ⟨h5, h4, by omega⟩)))
        · exact .inl ⟨h3, h5⟩
    · exact .inl (by simpa using hg)) with hg | ⟨hg, h1, h2⟩ | ⟨hg, rfl, h1⟩ | ⟨hg, rfl, h1⟩ | ⟨hg, rfl, h1, h2⟩ | ⟨hg, rfl, h1, h2⟩
  all_goals
    have hc : chkG s l n = (if okG s l n then 0 else 1) := rfl
    rw [hg] at hc
    simp only [Bool.false_eq_true, if_false, if_true] at hc
    rw [hc] at HC
    clear hc hg h
    go_enter Try.func10, Try.ntmps10
    go_wp2_with fail
    refine Calls.mono (HC.out _) ?_
    rintro e w1 ⟨rfl, b1⟩
    have HB1 := Lib.hid (HB.out.trans (b1.mono HB.out.size))
    have HK1 := Lib.hid (HK.out.below b1 HK.out.lt)
    clear b1 c0 c1 c2 c3 c4 c5 c6
    obtain ⟨c0, c1, c2, c3, c4, c5, c6⟩ := HK1.out.seven
    go_wp2_with fail
    go_ret2
    exact ⟨rfl, HB1.out⟩
end Go.Proofs.Ytjdifejnnkplaaa
