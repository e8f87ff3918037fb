/- The document's disk (loamlaw3.model) in memory; its read. No conditions. -/
import Derived.Test.YtfcbmdmkdjaoaaaDkB
import Derived.Test.YtfcbmdmkdjaoaaaDkI
import Derived.Test.YtfcbmdmkdjaoaaaStr
namespace Go.Proofs.Ytfcbmdmkdjaoaaa
set_option linter.unusedVariables false
set_option linter.unusedSimpArgs false
open Go.RowKit Go.Maps
set_option maxRecDepth 100000
set_option maxHeartbeats 4000000
structure Mod where
  size : Nat
  kept : List (List (BitVec 8))
  wait : List PW
  off : Bool
  armed : Bool
  left : Int
  keep : List Bool
  writes : Nat
structure ModX where
  kA : Option Addr
  kc : Nat
  wA : Option Addr
  wc : Nat
  eA : Option Addr
  ec : Nat
def stV (bs : List (BitVec 8)) : Value := .string (strB bs)
def WRow (W : World) (B : Nat) (A : Option Addr) (l : List PW) : Prop := ∀ k (h : k < l.length), ∃ ad, A = some ad ∧ ad.block < B ∧ W.cell? (ad.add (k * 2)) = some (.int .i64 l[k].1) ∧ W.cell? ⟨(ad.add (k * 2)).block, (ad.add (k * 2)).off + 1, none⟩ = some (.string (strB l[k].2))
structure MdAt (W : World) (g : Nat) (x : ModX) (m : Mod) : Prop where
  blk : Bk W g 33 #[.int .i64 m.size, .slice x.kA m.kept.length x.kc, .slice x.wA m.wait.length x.wc, .bool m.off, .bool m.armed, .int .i64 m.left, .slice x.eA m.keep.length x.ec, .int .i64 m.writes]
  kept : Rd stV W W.heap.size x.kA m.kept
  wait : WRow W W.heap.size x.wA m.wait
  keep : Rd boV W W.heap.size x.eA m.keep
  apart : (∀ a, x.kA = some a → a.block ≠ g) ∧ (∀ a, x.wA = some a → a.block ≠ g) ∧ ∀ a, x.eA = some a → m.keep ≠ [] → a.block ≠ g
/-- The last that waits for sector s, else b. -/
def lastW (s : Nat) (b : List (BitVec 8)) (l : List PW) : List (BitVec 8) := l.foldl (fun a p => if p.1 = s then p.2 else a) b
theorem lastW_succ (s : Nat) (b : List (BitVec 8)) (l : List PW) (k : Nat) (h : k < l.length) : lastW s b (l.take (k + 1)) = if l[k].1 = s then l[k].2 else lastW s b (l.take k) := by
  unfold lastW
  rw [List.take_add_one, List.getElem?_eq_getElem h, Option.toList_some, List.foldl_append]
  rfl
theorem mread_off {w : World} {g : Nat} {x : ModX} {m : Mod} (h : MdAt w g x m) (ho : m.off = true) (s : Int) : Calls Try.prog 13 #[.pointer (some ⟨g, 0, none⟩), .int .i64 s] w fun e w' => e = .returned (.tuple #[.string (strB []), .int .i64 7]) ∧ w' = w := by
  obtain ⟨c0, c1, c2, c3, c4, c5, c6, c7⟩ := h.blk.eight
  rw [ho] at c3
  clear h ho
  go_enter Try.func13, Try.ntmps13
  go_wp2_with fail
  go_ret2
  exact ⟨rfl, rfl⟩
theorem mread_bad {w : World} {g : Nat} {x : ModX} {m : Mod} (h : MdAt w g x m) (ho : m.off = false) (s : Int) (hs : s < 0 ∨ (m.kept.length : Int) ≤ s) : Calls Try.prog 13 #[.pointer (some ⟨g, 0, none⟩), .int .i64 s] w fun e w' => e = .returned (.tuple #[.string (strB []), .int .i64 1]) ∧ w' = w := by
  obtain ⟨c0, c1, c2, c3, c4, c5, c6, c7⟩ := h.blk.eight
  rw [ho] at c3
  obtain ⟨n, hn⟩ : ∃ n, n = m.kept.length := ⟨_, rfl⟩
  rw [← hn] at c1 hs
  clear h ho hn
  by_cases hs0 : s < 0
  · clear hs
    go_enter Try.func13, Try.ntmps13
    go_wp2_with fail
    go_ret2
    exact ⟨rfl, rfl⟩
  · have p : (n : Int) ≤ s := by omega
    have p0 : 0 ≤ s := by omega
    clear hs hs0
    go_enter Try.func13, Try.ntmps13
    go_wp2_with fail
    go_ret2
    exact ⟨rfl, rfl⟩
theorem mread_ok {w : World} {g : Nat} {x : ModX} {m : Mod} (h : MdAt w g x m) (ho : m.off = false) (hw : m.wait.length ≤ 1000000) (s : Nat) (hs : s < m.kept.length) : Calls Try.prog 13 #[.pointer (some ⟨g, 0, none⟩), .int .i64 s] w fun e w' => e = .returned (.tuple #[.string (strB (lastW s m.kept[s] m.wait)), .int .i64 0]) ∧ w' = w := by
  obtain ⟨c0, c1, c2, c3, c4, c5, c6, c7⟩ := h.blk.eight
  rw [ho] at c3
  obtain ⟨ad, hA, hb, hc⟩ := h.kept s hs
  rw [hA] at c1
  obtain ⟨b, hbb⟩ : ∃ b, b = m.kept[s] := ⟨_, rfl⟩
  rw [← hbb] at hc ⊢
  unfold stV at hc
  obtain ⟨n, hn⟩ : ∃ n, n = m.kept.length := ⟨_, rfl⟩
  rw [← hn] at c1 hs
  obtain ⟨NW, hNW⟩ : ∃ n, n = m.wait.length := ⟨_, rfl⟩
  rw [← hNW] at c2
  have HW := Lib.hid h.wait
  have HN := Lib.hid hNW
  have p1 : (0 : Int) ≤ (s : Int) := by omega
  have p2 : (s : Int) < (n : Int) := by omega
  have HS := Lib.hid hs
  have HN6 := Lib.hid (show NW ≤ 1000000 from by omega)
  clear h ho hn hA hbb hNW hs hw
  go_enter Try.func13, Try.ntmps13
  go_wp2_with fail
  go_loopw [6, 7] (fun sv i wr => ∃ k : Nat, k ≤ NW ∧ i = .int .i64 k ∧ sv = .string (strB (lastW s b (m.wait.take k))) ∧ wr = w) (fun _ i _ => NW - (Go.RowKit.intOf i).toNat)
  case atStart => exact ⟨0, by omega, rfl, rfl, rfl⟩
  case round =>
    obtain ⟨k, hk, rfl, rfl, rfl⟩ := hrel
    by_cases hlt : k < NW
    · have pk : (k : Int) < (NW : Int) := by omega
      have pk0 : (0 : Int) ≤ (k : Int) := by omega
      have pk3 : (k : Int) ≤ 1000000 := by have := HN6.out; omega
      have hkl : k < m.wait.length := by rw [← HN.out]; exact hlt
      obtain ⟨ad2, hA2, hb2, e0, e1⟩ := HW.out k hkl
      rw [hA2] at c2
      have hl := lastW_succ s b m.wait k hkl
      obtain ⟨y, hy⟩ : ∃ y, y = m.wait[k] := ⟨_, rfl⟩
      rw [← hy] at e0 e1 hl
      obtain ⟨ys, yb⟩ := y
      clear hy
      obtain ⟨cur, hcur⟩ : ∃ q, q = lastW s b (m.wait.take k) := ⟨_, rfl⟩
      rw [← hcur] at hl ⊢
      by_cases hys : ys = s
      · have q : ((ys : Int) == (s : Int)) = true := by simp; omega
        rw [if_pos hys] at hl
        have HLL := Lib.hid hl
        clear hys hl hcur hA2
        go_wp2_with fail
        go_roundw
        case rel => exact ⟨k + 1, by omega, by go_num, by first | rw [HLL.out] | simp [HLL.out], by first | rfl | trivial⟩
        case measure => (first | (simp [Go.RowKit.intOf]; done) | (simp [Go.RowKit.intOf]; omega))
      · have q : ((ys : Int) == (s : Int)) = false := by simp; omega
        rw [if_neg hys] at hl
        have HLL := Lib.hid hl
        clear hys hl hcur hA2
        go_wp2_with fail
        go_roundw
        case rel => exact ⟨k + 1, by omega, by go_num, by first | rw [HLL.out] | simp [HLL.out], by first | rfl | trivial⟩
        case measure => (first | (simp [Go.RowKit.intOf]; done) | (simp [Go.RowKit.intOf]; omega))
    · obtain rfl : k = NW := by omega
      clear hlt
      have HT := Lib.hid (show lastW s b (m.wait.take k) = lastW s b m.wait from by rw [HN.out, List.take_length])
      go_wp2_with fail
      go_ret2
      exact ⟨by rw [← HT.out]; rfl, rfl⟩
end Go.Proofs.Ytfcbmdmkdjaoaaa
