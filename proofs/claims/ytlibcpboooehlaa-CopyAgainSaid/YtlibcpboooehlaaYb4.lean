/- Texts joined: ObI CbB StA StP CgA CgB CgC CgD. -/
import Derived.Test.YtlibcpboooehlaaYb3
import Derived.Test.YtlibcpboooehlaaSpD
/- Two objects side by side, bytes written into both: what the words say (pure). Conditions: lengths. -/
namespace Go.Proofs.Ytlibcpboooehlaa
set_option linter.unusedVariables false
set_option linter.unusedSimpArgs false
open Go.RowKit
theorem hd_facts (P n room : Nat) (hP : P ≤ 64) (hn : n ≤ 1024) (hr : 1 + P + (n + 7) / 8 ≤ room) :
    goodX (packH P n false 0) room = true ∧ P0 (packH P n false 0) = P ∧ B0 (packH P n false 0) = n ∧ szX (packH P n false 0) = 1 + P + (n + 7) / 8 := by
  have hR : rightH (P : Int) (n : Int) false 0 = true := by
    unfold rightH
    rw [if_neg (by decide)]
    exact decide_eq_true ⟨rfl, by omega, by omega, by omega, by omega⟩
  obtain ⟨h1, h2, h3, h4⟩ := un_pack _ _ _ _ hR
  have hs : szX (packH P n false 0) = 1 + P + (n + 7) / 8 := by
    unfold szX
    rw [h1, h2, h3, h4]
    unfold sizeH
    rw [if_pos ⟨hR, rfl⟩]
    omega
  refine ⟨?_, ?_, ?_, hs⟩
  · unfold goodX
    rw [ok_pack _ _ _ _ hR, h3, hs]
    simp [hr]
  · unfold P0; rw [h1]; rfl
  · unfold B0; rw [h2]; rfl
theorem sizeH_two (P n : Nat) (hP : P ≤ 64) (hn : n ≤ 1024) : rightH (P : Int) (n : Int) false 0 = true ∧ sizeH (P : Int) (n : Int) false 0 = ((1 + P + (n + 7) / 8 : Nat) : Int) := by
  have hR : rightH (P : Int) (n : Int) false 0 = true := by
    unfold rightH
    rw [if_neg (by decide)]
    exact decide_eq_true ⟨rfl, by omega, by omega, by omega, by omega⟩
  refine ⟨hR, ?_⟩
  unfold sizeH
  rw [if_pos ⟨hR, rfl⟩]
  omega
theorem putK_far (ws : List (BitVec 64)) (a : Nat) (bs : List (BitVec 8)) (q : Nat) : ∀ k, (8 * q + 8 ≤ a ∨ a + k ≤ 8 * q) → (putK ws a bs k).getD q 0#64 = ws.getD q 0#64
  | 0, _ => rfl
  | k + 1, h => by
    show (setB _ _ _).getD q 0#64 = _
    rw [setB_far _ _ _ _ (by omega), putK_far ws a bs q k (by omega)]
theorem allocW_get (ws : List (BitVec 64)) (t m q : Nat) (x : BitVec 64) (hm : 1 ≤ m) (hl : t + m ≤ ws.length) : (allocW ws t m x).getD q 0#64 = if q = t then x else if t < q ∧ q < t + m then 0#64 else ws.getD q 0#64 := by
  unfold allocW
  rw [List.getD_eq_getElem?_getD, zeroW_get _ _ _ _ (by rw [List.length_set]; omega)]
  by_cases c : t + 1 ≤ q ∧ q < t + 1 + (m - 1)
  · rw [if_pos c, if_neg (by omega), if_pos (by omega)]; rfl
  · rw [if_neg c, List.getElem?_set]
    by_cases e : t = q
    · subst e
      rw [if_pos rfl, if_pos (by omega), if_pos rfl]; rfl
    · rw [if_neg e, if_neg (fun h => e h.symm), if_neg (by omega), ← List.getD_eq_getElem?_getD]
theorem byteAt_zero {ws : List (BitVec 64)} {i : Nat} (h : ws.getD (i / 8) 0#64 = 0#64) : byteAt ws i = 0#8 := by
  unfold byteAt
  rw [h]
  simp
/-- The words of two objects. -/
def twoW (P n k : Nat) : List (BitVec 64) := allocW (allocW (List.replicate 200 0#64) 0 (1 + P + (n + 7) / 8) (packH P n false 0)) (1 + P + (n + 7) / 8) (1 + 0 + (k + 7) / 8) (packH (0 : Nat) k false 0)
theorem twoW_len (P n k : Nat) : (twoW P n k).length = 200 := by unfold twoW; rw [allocW_len, allocW_len, List.length_replicate]
theorem rep_get (q : Nat) : (List.replicate 200 0#64).getD q 0#64 = 0#64 := by
  rw [List.getD_eq_getElem?_getD, List.getElem?_replicate]
  split <;> rfl
theorem twoW_get (P n k q : Nat) (hP : P ≤ 7) (hn : n ≤ 63) (hk : k ≤ 63) : (twoW P n k).getD q 0#64 = if q = 1 + P + (n + 7) / 8 then packH (0 : Nat) k false 0 else if q = 0 then packH P n false 0 else 0#64 := by
  unfold twoW
  rw [allocW_get _ _ _ _ _ (by omega) (by rw [allocW_len, List.length_replicate]; omega)]
  by_cases e : q = 1 + P + (n + 7) / 8
  · rw [if_pos e, if_pos e]
  · rw [if_neg e, if_neg e]
    by_cases c : 1 + P + (n + 7) / 8 < q ∧ q < 1 + P + (n + 7) / 8 + (1 + 0 + (k + 7) / 8)
    · rw [if_pos c, if_neg (by omega)]
    · rw [if_neg c, allocW_get _ _ _ _ _ (by omega) (by rw [List.length_replicate]; omega), rep_get]
      by_cases z : q = 0
      · rw [if_pos z, if_pos z]
      · rw [if_neg z, if_neg z]
        split <;> rfl
section
variable (P n k : Nat) (x y : List (BitVec 8))
def apA : List (BitVec 64) := putK (twoW P n k) (8 * (1 + P + (n + 7) / 8 + 1 + 0) + 0) y y.length
def apB : List (BitVec 64) := putK (apA P n k y) (8 * (0 + 1 + P) + (n - x.length)) x x.length
theorem apA_len : (apA P n k y).length = 200 := by unfold apA; rw [putK_len, twoW_len]
theorem apB_len : (apB P n k x y).length = 200 := by unfold apB; rw [putK_len, apA_len]
variable (hP : P ≤ 7) (hn : n ≤ 63) (hk : k ≤ 63) (hx : x.length ≤ n) (hy : y.length ≤ k)
include hP hn hk
theorem twoW_h : (twoW P n k).getD 0 0#64 = packH P n false 0 ∧ (twoW P n k).getD (1 + P + (n + 7) / 8) 0#64 = packH (0 : Nat) k false 0 := by
  constructor
  · rw [twoW_get P n k 0 hP hn hk, if_neg (by omega), if_pos rfl]
  · rw [twoW_get P n k _ hP hn hk, if_pos rfl]
theorem apA_h : (apA P n k y).getD 0 0#64 = packH P n false 0 ∧ (apA P n k y).getD (1 + P + (n + 7) / 8) 0#64 = packH (0 : Nat) k false 0 := by
  obtain ⟨h1, h2⟩ := twoW_h P n k hP hn hk
  unfold apA
  rw [putK_far _ _ _ _ _ (by omega), putK_far _ _ _ _ _ (by omega)]
  exact ⟨h1, h2⟩
include hx
theorem apB_h : (apB P n k x y).getD 0 0#64 = packH P n false 0 ∧ (apB P n k x y).getD (1 + P + (n + 7) / 8) 0#64 = packH (0 : Nat) k false 0 := by
  obtain ⟨h1, h2⟩ := apA_h P n k y hP hn hk
  unfold apB
  rw [putK_far _ _ _ _ _ (by omega), putK_far _ _ _ _ _ (by omega)]
  exact ⟨h1, h2⟩
include hy
theorem apB_ptr (q : Nat) (hq : q < P) : (apB P n k x y).getD (0 + 1 + q) 0#64 = 0#64 := by
  unfold apB apA
  rw [putK_far _ _ _ _ _ (by omega), putK_far _ _ _ _ _ (by omega), twoW_get P n k _ hP hn hk, if_neg (by omega), if_neg (by omega)]
theorem apB_byte (i : Nat) (h1 : i / 8 ≠ 0) (h2 : i / 8 ≠ 1 + P + (n + 7) / 8) : byteAt (apB P n k x y) i = if 8 * (0 + 1 + P) + (n - x.length) ≤ i ∧ i < 8 * (0 + 1 + P) + (n - x.length) + x.length then x.getD (i - (8 * (0 + 1 + P) + (n - x.length))) 0#8 else if 8 * (1 + P + (n + 7) / 8 + 1 + 0) + 0 ≤ i ∧ i < 8 * (1 + P + (n + 7) / 8 + 1 + 0) + 0 + y.length then y.getD (i - (8 * (1 + P + (n + 7) / 8 + 1 + 0) + 0)) 0#8 else 0#8 := by
  unfold apB
  rw [byteAt_putK _ _ _ _ _ (by rw [apA_len]; omega)]
  unfold apA
  rw [byteAt_putK _ _ _ _ _ (by rw [twoW_len]; omega)]
  rw [byteAt_zero (by rw [twoW_get P n k _ hP hn hk, if_neg h2, if_neg h1])]
theorem apB_x : bytesM (apB P n k x y) (8 * (0 + 1 + P) + (n - x.length)) x.length = x := by
  apply List.ext_getElem
  · simp [bytesM]
  · intro j h1 h2
    have e : (bytesM (apB P n k x y) (8 * (0 + 1 + P) + (n - x.length)) x.length)[j] = byteAt (apB P n k x y) (8 * (0 + 1 + P) + (n - x.length) + j) := by simp [bytesM]
    rw [e, apB_byte P n k x y hP hn hk hx hy _ (by omega) (by omega), if_pos (by omega), show 8 * (0 + 1 + P) + (n - x.length) + j - (8 * (0 + 1 + P) + (n - x.length)) = j from by omega]
    simp [List.getD, h2]
theorem apB_y : bytesM (apB P n k x y) (8 * (1 + P + (n + 7) / 8 + 1 + 0) + 0) y.length = y := by
  apply List.ext_getElem
  · simp [bytesM]
  · intro j h1 h2
    have e : (bytesM (apB P n k x y) (8 * (1 + P + (n + 7) / 8 + 1 + 0) + 0) y.length)[j] = byteAt (apB P n k x y) (8 * (1 + P + (n + 7) / 8 + 1 + 0) + 0 + j) := by simp [bytesM]
    rw [e, apB_byte P n k x y hP hn hk hx hy _ (by omega) (by omega), if_neg (by omega), if_pos (by omega), show 8 * (1 + P + (n + 7) / 8 + 1 + 0) + 0 + j - (8 * (1 + P + (n + 7) / 8 + 1 + 0) + 0) = j from by omega]
    simp [List.getD, h2]
theorem apB_well : wellE (apB P n k x y) 0 (1 + P + (n + 7) / 8 + (1 + 0 + (k + 7) / 8)) = 0 := by
  obtain ⟨h1, h2⟩ := apB_h P n k x y hP hn hk hx
  obtain ⟨T, hT⟩ : ∃ T, T = 1 + P + (n + 7) / 8 + (1 + 0 + (k + 7) / 8) := ⟨_, rfl⟩
  obtain ⟨U, hU⟩ : ∃ U, U = T - 2 := ⟨_, rfl⟩
  obtain ⟨a1, a2, a3, a4⟩ := hd_facts P n (T - 0) (by omega) (by omega) (by omega)
  obtain ⟨b1, b2, b3, b4⟩ := hd_facts 0 k (T - (1 + P + (n + 7) / 8)) (by omega) (by omega) (by omega)
  have ho : objF (apB P n k x y) T (T + 1) 0 = some [0, 1 + P + (n + 7) / 8] := by
    rw [show T + 1 = U + 1 + 1 + 1 from by omega]
    unfold objF
    rw [if_pos (by omega), h1, if_pos a1, a4]
    unfold objF
    rw [show 0 + (1 + P + (n + 7) / 8) = 1 + P + (n + 7) / 8 from by omega, if_pos (by omega), h2, if_pos b1, b4]
    unfold objF
    rw [if_neg (by omega)]
    rfl
  rw [← hT, well_some ho]
  refine if_pos ?_
  simp only [List.all_cons, List.all_nil, Bool.and_true, Bool.and_eq_true]
  constructor
  · unfold wellN
    rw [Bool.and_eq_true]
    constructor
    · rw [h1, a2, List.all_eq_true]
      intro q hq
      have hq := List.mem_range.1 hq
      unfold ptrN
      rw [apB_ptr P n k x y hP hn hk hx hy q hq]
      exact decide_eq_true (.inl rfl)
    · unfold padN padB
      rw [h1, a2, a3, a4, List.all_eq_true]
      intro z hz
      unfold bytesM at hz
      obtain ⟨i, hi, rfl⟩ := List.mem_map.1 hz
      have hi := List.mem_range.1 hi
      rw [apB_byte P n k x y hP hn hk hx hy _ (by omega) (by omega), if_neg (by omega), if_neg (by omega)]
      rfl
  · unfold wellN
    rw [Bool.and_eq_true]
    constructor
    · rw [h2, b2]; rfl
    · unfold padN padB
      rw [h2, b2, b3, b4, List.all_eq_true]
      intro z hz
      unfold bytesM at hz
      obtain ⟨i, hi, rfl⟩ := List.mem_map.1 hz
      have hi := List.mem_range.1 hi
      rw [apB_byte P n k x y hP hn hk hx hy _ (by omega) (by omega), if_neg (by omega), if_neg (by omega)]
      rfl
end
end Go.Proofs.Ytlibcpboooehlaa
/- Objects without pointers, copied (pure). Conditions: room. -/
namespace Go.Proofs.Ytlibcpboooehlaa
set_option linter.unusedVariables false
set_option linter.unusedSimpArgs false
open Go.RowKit Go.Maps
def sumZ (ws : List (BitVec 64)) : List Nat → Nat
  | [] => 0
  | a :: r => szX (ws.getD a 0#64) + sumZ ws r
/-- Where objects come to stand. -/
def posL (ws : List (BitVec 64)) : List Nat → Nat → List Nat
  | [], _ => []
  | a :: r, p => p :: posL ws r (p + szX (ws.getD a 0#64))
section
variable {ws T : List (BitVec 64)} {l : List Nat} {b t : Nat}
theorem posL_len : ∀ (r : List Nat) (p : Nat), (posL ws r p).length = r.length
  | [], _ => rfl
  | _ :: r, p => by unfold posL; rw [List.length_cons, List.length_cons, posL_len r]
theorem chain_at : ∀ (r : List Nat) (p q j : Nat) (hj : j < r.length), Chain ws T r p q → ∃ x, (posL ws r p)[j]? = some x ∧ p ≤ x ∧ x + szX (ws.getD r[j] 0#64) ≤ q ∧ ∀ i, i < szX (ws.getD r[j] 0#64) → T.getD (x + i) 0#64 = ws.getD (r[j] + i) 0#64
  | [], _, _, j, hj, _ => absurd hj (by simp)
  | a :: r, p, q, 0, _, h => ⟨p, rfl, Nat.le_refl _, by have := h.2.le; simpa using this, h.1⟩
  | a :: r, p, q, j + 1, hj, h => by
    obtain ⟨x, h1, h2, h3, h4⟩ := chain_at r _ q j (by simpa using hj) h.2
    exact ⟨x, by unfold posL; simpa using h1, by omega, by simpa using h3, by simpa using h4⟩
/-- Objects that were not taken yet are taken, one by one. -/
theorem roots_fresh (H : Heap ws l b t) : ∀ (r : List Nat) (c : Cy), InvC l ws b t c → (∀ a ∈ r, a ∈ l ∧ fM (c.F.getD a 0#64) = false) → r.Nodup → c.top + sumZ ws r ≤ c.T.length →
    ∃ d, rootsC (r.map (· + 1)) c = some ((posL ws r c.top).map (· + 1), d) ∧ InvC l ws b t d ∧ d.top = c.top + sumZ ws r ∧ d.T.length = c.T.length ∧ (∀ i, i < c.top → d.T.getD i 0#64 = c.T.getD i 0#64) ∧ Chain ws d.T r c.top d.top
  | [], c, h, _, _, _ => ⟨c, rfl, h, rfl, rfl, fun _ _ => rfl, rfl⟩
  | a :: r, c, h, hr, hn, hs => by
    obtain ⟨ha, hm⟩ := hr a (.head _)
    have hx := h.2.2.2.2 a ha hm
    have hsum : sumZ ws (a :: r) = szX (ws.getD a 0#64) + sumZ ws r := rfl
    have htk : takeC c a = some (c.top, movC c a) := by
      unfold takeC
      rw [hm, if_neg (by simp), if_pos (by rw [hx]; omega)]
    obtain ⟨i1, i2⟩ := takeC_inv H h ha htk
    obtain ⟨_, _, _, k4, k5, k6, k7⟩ := takeC_ok h.1 h.2.1 ha htk
    rcases i2 with ⟨_, e⟩ | ⟨_, _, _, e4, e5⟩
    · rw [hm] at e; cases e
    · have hFs : (movC c a).F = c.F.set a (goneW c.top) := rfl
      have hal : a < c.F.length := by have := H.tl; have := (H.good a ha).2.1; rw [h.2.2.1]; omega
      obtain ⟨d, d1, d2, d3, d4, d5, d6⟩ := roots_fresh H r (movC c a) i1 (fun x hx2 => by
        obtain ⟨j1, j2⟩ := hr x (.tail _ hx2)
        refine ⟨j1, ?_⟩
        rw [hFs, getD_set hal, if_neg (fun e => (List.nodup_cons.1 hn).1 (by rw [e]; exact hx2))]
        exact j2) (List.nodup_cons.1 hn).2 (by rw [e4, k5]; omega)
      refine ⟨d, ?_, d2, by rw [d3, e4]; omega, d4.trans k5, fun i hi => by rw [d5 i (by omega)]; exact k7 i hi, ?_, ?_⟩
      · show (match takeP c (a + 1) with | none => none | some (q, d) => match rootsC (r.map (· + 1)) d with | none => none | some (qs, e) => some (q :: qs, e)) = _
        have : takeP c (a + 1) = some (c.top + 1, movC c a) := by
          show (takeC c a).map _ = _
          rw [htk]; rfl
        rw [this]
        simp only
        rw [d1]
        simp only
        rw [show (posL ws (a :: r) c.top) = c.top :: posL ws r (c.top + szX (ws.getD a 0#64)) from rfl, e4]
        rfl
      · intro i hi
        rw [d5 _ (by omega)]
        exact e5 i hi
      · rw [← e4]; exact d6
/-- Objects without pointers are scanned: nothing turns. -/
theorem go_plain (H : Heap ws l b t) : ∀ (r : List Nat) (p f : Nat) (c : Cy), (∀ a ∈ r, a ∈ l ∧ P0 (ws.getD a 0#64) = 0) → Chain ws c.T r p c.top → goC f p c = some c
  | _, _, 0, _, _, _ => rfl
  | [], p, f + 1, c, _, h => by
    have h : p = c.top := h
    show (if p < c.top then _ else some c) = _
    rw [if_neg (by omega)]
  | a :: r, p, f + 1, c, hr, h => by
    obtain ⟨ha, hp⟩ := hr a (.head _)
    have hn := size_pos (H.good a ha).2.2
    have hle := h.2.le
    have hx := h.1 0 (by omega)
    rw [Nat.add_zero, Nat.add_zero] at hx
    show (if p < c.top then (match scanC p (P0 (c.T.getD p 0#64)) 0 c with | none => none | some d => goC f (p + szX (d.T.getD p 0#64)) d) else some c) = _
    rw [if_pos (by omega), hx, hp]
    show goC f (p + szX (c.T.getD p 0#64)) c = _
    rw [hx]
    exact go_plain H r _ f c (fun x hx => hr x (.tail _ hx)) h.2
theorem copy_plain (H : Heap ws l b t) (m : Nat) (hm : m ≤ 8192) (r : List Nat) (hr : ∀ a ∈ r, a ∈ l ∧ P0 (ws.getD a 0#64) = 0) (hn : r.Nodup) (hs : sumZ ws r ≤ m) :
    ∃ d, copyC ws m (r.map (· + 1)) = some ((posL ws r 0).map (· + 1), d) ∧ d.top = sumZ ws r ∧ d.T.length = m ∧ Chain ws d.T r 0 d.top := by
  obtain ⟨d, d1, d2, d3, d4, d5, d6⟩ := roots_fresh H r ⟨ws, List.replicate m 0#64, 0⟩ (inv_start H hm) (fun a ha => ⟨(hr a ha).1, (goodX_out (H.good a (hr a ha).1).2.2).2.1⟩) hn (by simp; omega)
  refine ⟨d, ?_, by rw [d3]; simp, by rw [d4]; simp, d6⟩
  unfold copyC
  rw [d1]
  simp only
  rw [go_plain H r 0 (m + 1) d hr d6]
  rfl
theorem bytes_same {A B : List (BitVec 64)} {x y n : Nat} (h : ∀ i, i < (n + 7) / 8 → A.getD (x + i) 0#64 = B.getD (y + i) 0#64) : bytesM A (8 * x) n = bytesM B (8 * y) n := by
  unfold bytesM
  refine List.map_congr_left fun i hi => ?_
  have hi := List.mem_range.1 hi
  unfold byteAt
  rw [show (8 * x + i) / 8 = x + i / 8 from by omega, show (8 * y + i) / 8 = y + i / 8 from by omega, h (i / 8) (by omega), show (8 * x + i) % 8 = (8 * y + i) % 8 from by omega]
end
end Go.Proofs.Ytlibcpboooehlaa
/- Copying step by step, in words; that there is always room; how many steps there are (pure). Conditions: room for all objects. -/
namespace Go.Proofs.Ytlibcpboooehlaa
set_option linter.unusedVariables false
set_option linter.unusedSimpArgs false
open Go.RowKit Go.Maps
section
variable {ws T T' : List (BitVec 64)} {l : List Nat} {b t : Nat} {c d : Cy}
theorem sum_app (x y : List Nat) : sumZ ws (x ++ y) = sumZ ws x + sumZ ws y := by
  induction x with
  | nil => show _ = 0 + _; rw [Nat.zero_add]; rfl
  | cons a x ih => show szX _ + sumZ ws (x ++ y) = szX _ + sumZ ws x + _; rw [ih]; omega
theorem sum_sub : ∀ (x y : List Nat), x.Nodup → (∀ a ∈ x, a ∈ y) → sumZ ws x ≤ sumZ ws y
  | [], _, _, _ => Nat.zero_le _
  | a :: x, y, hn, hs => by
    obtain ⟨y1, y2, rfl⟩ := List.append_of_mem (hs a (.head _))
    obtain ⟨n1, n2⟩ := List.nodup_cons.1 hn
    have ih := sum_sub x (y1 ++ y2) n2 (fun z hz => by
      have := hs z (.tail _ hz)
      rcases List.mem_append.1 this with h | h
      · exact List.mem_append.2 (.inl h)
      · rcases List.mem_cons.1 h with h | h
        · exact absurd (h ▸ hz) n1
        · exact List.mem_append.2 (.inr h))
    rw [sum_app] at ih ⊢
    show szX _ + sumZ ws x ≤ sumZ ws y1 + (szX _ + sumZ ws y2)
    omega
theorem sum_obj {top : Nat} : ∀ (n a : Nat) (l : List Nat), a ≤ top → objF ws top n a = some l → a + sumZ ws l ≤ top
  | 0, a, l, ha, h => by injection h with h; subst h; exact ha
  | n + 1, a, l, ha, h => by
    have e : objF ws top (n + 1) a = if a < top then (if goodX (ws.getD a 0#64) (top - a) = true then (objF ws top n (a + szX (ws.getD a 0#64))).map (a :: ·) else none) else some [] := rfl
    rw [e] at h
    by_cases c : a < top
    · rw [if_pos c] at h
      by_cases d : goodX (ws.getD a 0#64) (top - a) = true
      · rw [if_pos d] at h
        have hs := (goodX_out d).2.2
        cases hr : objF ws top n (a + szX (ws.getD a 0#64)) with
        | none => rw [hr] at h; cases h
        | some r =>
          rw [hr] at h
          injection h with h
          subst h
          have := sum_obj n _ r (by omega) hr
          show a + (szX _ + sumZ ws r) ≤ top
          omega
      · rw [if_neg d] at h; cases h
    · rw [if_neg c] at h
      injection h with h
      subst h
      exact ha
/-- The objects that were taken, in their order. -/
def CntI (l : List Nat) (ws : List (BitVec 64)) (c : Cy) (all : List Nat) : Prop := sumZ ws all = c.top ∧ all.Nodup ∧ (∀ a ∈ all, a ∈ l) ∧ ∀ a ∈ l, (fM (c.F.getD a 0#64) = true ↔ a ∈ all)
/-- Headers of objects, one behind the other. -/
def Heads (ws T : List (BitVec 64)) : List Nat → Nat → Nat → Prop
  | [], p, q => p = q
  | a :: r, p, q => T.getD p 0#64 = ws.getD a 0#64 ∧ Heads ws T r (p + szX (ws.getD a 0#64)) q
theorem Heads.sum : ∀ {r : List Nat} {p q : Nat}, Heads ws T r p q → p + sumZ ws r = q
  | [], _, _, h => h
  | a :: r, p, q, h => by have := Heads.sum (r := r) h.2; show p + (szX _ + sumZ ws r) = q; omega
theorem Heads.snoc : ∀ {r : List Nat} {p q a : Nat}, Heads ws T r p q → T.getD q 0#64 = ws.getD a 0#64 → Heads ws T (r ++ [a]) p (q + szX (ws.getD a 0#64))
  | [], p, q, a, h, k => by have h : p = q := h; subst h; exact ⟨k, rfl⟩
  | x :: r, p, q, a, h, k => ⟨h.1, Heads.snoc (r := r) h.2 k⟩
theorem Heads.same (hz : ∀ a ∈ l, 1 ≤ szX (ws.getD a 0#64)) : ∀ {r : List Nat} {p q : Nat}, (∀ a ∈ r, a ∈ l) → Heads ws T r p q → (∀ i, p ≤ i → i < q → T'.getD i 0#64 = T.getD i 0#64) → Heads ws T' r p q
  | [], _, _, _, h, _ => h
  | x :: r, p, q, hr, h, k => by
    have h2 := Heads.sum (r := r) h.2
    have := hz x (hr x (.head _))
    exact ⟨by rw [k p (Nat.le_refl _) (by omega)]; exact h.1, Heads.same (r := r) hz (fun a ha => hr a (.tail _ ha)) h.2 (fun i h1 h3 => k i (by omega) h3)⟩
theorem takeC_all (H : Heap ws l b t) (h : InvC l ws b t c) {all : List Nat} (hc : CntI l ws c all) (hcap : sumZ ws l ≤ c.T.length) {a : Nat} (ha : a ∈ l) :
    ∃ u d, takeC c a = some (u, d) ∧ InvC l ws b t d ∧ ∃ ext, CntI l ws d (all ++ ext) ∧ (∀ p0 ys, Chain ws c.T ys p0 c.top → Chain ws d.T (ys ++ ext) p0 d.top) := by
  obtain ⟨c1, c2, c3, c4⟩ := hc
  by_cases hm : fM (c.F.getD a 0#64) = true
  · have e : takeC c a = some ((fT (c.F.getD a 0#64)).toNat, c) := by unfold takeC; rw [if_pos hm]
    exact ⟨_, _, e, h, [], by rw [List.append_nil]; exact ⟨c1, c2, c3, c4⟩, fun p0 ys k => by rw [List.append_nil]; exact k⟩
  · have hm2 : fM (c.F.getD a 0#64) = false := by simpa using hm
    have hx := h.2.2.2.2 a ha hm2
    have hna : a ∉ all := fun hin => hm ((c4 a ha).2 hin)
    have hle := sum_sub (ws := ws) (a :: all) l (List.nodup_cons.2 ⟨hna, c2⟩) (fun z hz => (List.mem_cons.1 hz).elim (fun e => e ▸ ha) (c3 z))
    have hle : szX (ws.getD a 0#64) + sumZ ws all ≤ sumZ ws l := hle
    have e : takeC c a = some (c.top, movC c a) := by
      unfold takeC
      rw [if_neg hm, if_pos (by rw [hx]; omega)]
    obtain ⟨i1, i2⟩ := takeC_inv H h ha e
    obtain ⟨_, _, _, k4, k5, k6, k7⟩ := takeC_ok h.1 h.2.1 ha e
    rcases i2 with ⟨_, e2⟩ | ⟨_, _, _, e4, e5⟩
    · rw [hm2] at e2; cases e2
    · have hal : a < c.F.length := by have := H.tl; have := (H.good a ha).2.1; rw [h.2.2.1]; omega
      have hFs : (movC c a).F = c.F.set a (goneW c.top) := rfl
      obtain ⟨_, g2, _⟩ := gone_ok (u := c.top) (by have := i1.2.1.2.1; have := i1.2.1.2.2; have := h.2.1.2.1; have := h.2.1.2.2; have := size_pos (H.good a ha).2.2; omega)
      refine ⟨_, _, e, i1, [a], ⟨?_, ?_, ?_, ?_⟩, ?_⟩
      · rw [sum_app]
        show _ + (szX _ + 0) = _
        rw [e4]; omega
      · exact List.nodup_append.2 ⟨c2, by simp, fun x hx y hy => by rw [List.mem_singleton.1 hy]; exact fun e3 => hna (e3 ▸ hx)⟩
      · intro x hx2
        rcases List.mem_append.1 hx2 with h2 | h2
        · exact c3 x h2
        · rw [List.mem_singleton.1 h2]; exact ha
      · intro x hxl
        rw [hFs, getD_set hal]
        by_cases e3 : a = x
        · rw [if_pos e3, g2]
          exact ⟨fun _ => by rw [← e3]; simp, fun _ => rfl⟩
        · rw [if_neg e3, c4 x hxl]
          simp
          exact fun h2 => absurd h2.symm e3
      · intro p0 ys k
        rw [e4]
        exact (k.same (fun i _ h2 => k7 i h2)).snoc e5
theorem takeP_all (H : Heap ws l b t) (h : InvC l ws b t c) {all : List Nat} (hc : CntI l ws c all) (hcap : sumZ ws l ≤ c.T.length) {k : Nat} (hk : k = 0 ∨ (1 ≤ k ∧ k - 1 ∈ l)) :
    ∃ q d, takeP c k = some (q, d) ∧ InvC l ws b t d ∧ ∃ ext, CntI l ws d (all ++ ext) ∧ (∀ p0 ys, Chain ws c.T ys p0 c.top → Chain ws d.T (ys ++ ext) p0 d.top) := by
  cases k with
  | zero => exact ⟨0, c, rfl, h, [], by rw [List.append_nil]; exact hc, fun p0 ys k => by rw [List.append_nil]; exact k⟩
  | succ a =>
    have ha : a ∈ l := by
      rcases hk with hk | ⟨_, hk⟩
      · cases hk
      · simpa using hk
    obtain ⟨u, d, e, r⟩ := takeC_all H h hc hcap ha
    refine ⟨u + 1, d, ?_, r⟩
    show (takeC c a).map _ = _
    rw [e]; rfl
theorem scanC_all (H : Heap ws l b t) {at_ P p1 : Nat} : ∀ (n i : Nat) (c : Cy) (all ys : List Nat), n + i = P → InvC l ws b t c → CntI l ws c all → sumZ ws l ≤ c.T.length → at_ + 1 + P ≤ p1 → p1 ≤ c.top → PtL l c at_ P i → Chain ws c.T ys p1 c.top →
    ∃ d, scanC at_ n i c = some d ∧ InvC l ws b t d ∧ (∃ ext, CntI l ws d (all ++ ext) ∧ Chain ws d.T (ys ++ ext) p1 d.top) ∧ c.top ≤ d.top ∧ d.T.length = c.T.length ∧ d.F.length = c.F.length ∧ (∀ j, j < c.top → ¬ (at_ + 1 + i ≤ j ∧ j < at_ + 1 + P) → d.T.getD j 0#64 = c.T.getD j 0#64)
  | 0, i, c, all, ys, _, h, hc, _, _, _, _, hch => ⟨c, rfl, h, ⟨[], by rw [List.append_nil]; exact hc, by rw [List.append_nil]; exact hch⟩, Nat.le_refl _, rfl, rfl, fun _ _ _ => rfl⟩
  | n + 1, i, c, all, ys, hn, h, hc, hcap, hp1, hpt, hp, hch => by
    have hi : i < P := by omega
    obtain ⟨q, z, hr, k1, ext, k2, k3⟩ := takeP_all H h hc hcap (hp i (Nat.le_refl _) hi)
    obtain ⟨j1, j2, j3, j4, j5, j6, j7, j8, j9⟩ := scan_step h.1 h.2.1 hi (by omega) hp hr
    have hin : at_ + 1 + i < z.T.length := by have := h.2.1.2.2; omega
    have hset : Chain ws (setC z (at_ + 1 + i) q).T (ys ++ ext) p1 (setC z (at_ + 1 + i) q).top := by
      refine (k3 _ _ hch).same (fun j h1 _ => ?_)
      unfold setC
      rw [getD_set hin, if_neg (by omega)]
    obtain ⟨d, m0, m1, ⟨ext2, m2, m3⟩, m4, m5, m6, m7⟩ := scanC_all H n (i + 1) (setC z (at_ + 1 + i) q) (all ++ ext) (ys ++ ext) (by omega) ⟨j1, j2, k1.2.2.1, k1.2.2.2.1, k1.2.2.2.2⟩ k2 (by show _ ≤ (z.T.set _ _).length; rw [List.length_set, j6]; exact hcap) hp1 (show p1 ≤ z.top by omega) j3 hset
    refine ⟨d, ?_, m1, ⟨ext ++ ext2, by rw [← List.append_assoc]; exact m2, by rw [← List.append_assoc]; exact m3⟩, ?_, ?_, ?_, fun j hj hne => ?_⟩
    · show (match takeP c (c.T.getD (at_ + 1 + i) 0#64).toNat with | none => none | some (p, z) => scanC at_ n (i + 1) (setC z (at_ + 1 + i) p)) = _
      rw [hr]
      exact m0
    · have : (setC z (at_ + 1 + i) q).top = z.top := rfl
      omega
    · rw [m5]; show ((z.T.set _ _).length) = _; rw [List.length_set, j6]
    · rw [m6]; show z.F.length = _; rw [j7]
    · rw [m7 j (show j < z.top by omega) (by omega)]
      exact j9 j hj (by omega)
end
/-- A collector: its words, the roots' new places, the next object to scan. -/
structure Sc where
  c : Cy
  qs : List Nat
  sc : Nat
def doneS (ps : List Nat) (s : Sc) : Bool := decide (s.qs.length = ps.length ∧ s.sc = s.c.top)
def onceS (ps : List Nat) (s : Sc) : Option Sc :=
  if s.qs.length < ps.length then (takeP s.c (ps.getD s.qs.length 0)).map fun r => ⟨r.2, s.qs ++ [r.1], s.sc⟩
  else (scanC s.sc (P0 (s.c.T.getD s.sc 0#64)) 0 s.c).map fun d => ⟨d, s.qs, s.sc + szX (s.c.T.getD s.sc 0#64)⟩
def nextS (ps : List Nat) (s : Sc) : Sc := if doneS ps s = true then s else (onceS ps s).getD s
def runS (ps : List Nat) : Nat → Sc → Sc
  | 0, s => s
  | n + 1, s => runS ps n (nextS ps s)
theorem run_add (ps : List Nat) : ∀ (n m : Nat) (s : Sc), runS ps (n + m) s = runS ps m (runS ps n s)
  | 0, m, s => by rw [Nat.zero_add]; rfl
  | n + 1, m, s => by rw [show n + 1 + m = (n + m) + 1 from by omega]; exact run_add ps n m _
theorem run_succ (ps : List Nat) (n : Nat) (s : Sc) : runS ps (n + 1) s = nextS ps (runS ps n s) := by rw [run_add]; rfl
theorem run_done {ps : List Nat} {s : Sc} (h : doneS ps s = true) : ∀ n, runS ps n s = s
  | 0 => rfl
  | n + 1 => by show runS ps n (nextS ps s) = s; unfold nextS; rw [if_pos h]; exact run_done h n
section
variable {ws : List (BitVec 64)} {l : List Nat} {b t m : Nat} {ps : List Nat}
/-- n steps were done, of which so many were scans. -/
structure StI (ws : List (BitVec 64)) (l : List Nat) (b t m : Nat) (ps : List Nat) (s : Sc) (z : Nat) : Prop where
  inv : InvC l ws b t s.c
  len : s.c.T.length = m
  qs : s.qs.length ≤ ps.length
  ord : ∃ zs ys, zs.length = z ∧ CntI l ws s.c (zs ++ ys) ∧ Heads ws s.c.T zs 0 s.sc ∧ Chain ws s.c.T ys s.sc s.c.top
theorem StI.le {s : Sc} {z : Nat} (h : StI ws l b t m ps s z) : s.sc ≤ s.c.top ∧ s.c.top ≤ m := by
  obtain ⟨zs, ys, _, _, _, h2⟩ := h.ord
  exact ⟨h2.le, by have := h.inv.2.1.2.2; rw [h.len] at this; exact this⟩
theorem st_start (H : Heap ws l b t) (hm : m ≤ 8192) : StI ws l b t m ps ⟨⟨ws, List.replicate m 0#64, 0⟩, [], 0⟩ 0 :=
  ⟨inv_start H hm, by simp, Nat.zero_le _, [], [], rfl, ⟨rfl, List.nodup_nil, fun _ h => (by cases h), fun a ha => by
    have : fM (ws.getD a 0#64) = false := (goodX_out (H.good a ha).2.2).2.1
    show (fM (ws.getD a 0#64) = true ↔ _)
    rw [this]; simp⟩, rfl, rfl⟩
def measS (m : Nat) (ps : List Nat) (s : Sc) : Nat := (ps.length - s.qs.length) + (m - s.sc)
theorem once_ok (H : Heap ws l b t) (hps : ∀ p ∈ ps, p = 0 ∨ (1 ≤ p ∧ p - 1 ∈ l)) (hcap : sumZ ws l ≤ m) {s : Sc} {z : Nat} (h : StI ws l b t m ps s z) (hd : doneS ps s = false) :
    ∃ s', onceS ps s = some s' ∧ measS m ps s' < measS m ps s ∧ ((s.qs.length < ps.length ∧ s'.qs.length = s.qs.length + 1 ∧ StI ws l b t m ps s' z) ∨ (¬ s.qs.length < ps.length ∧ s'.qs = s.qs ∧ StI ws l b t m ps s' (z + 1))) := by
  obtain ⟨zs, ys, hz, hcn, hhd, hch⟩ := h.ord
  have hsz : ∀ a ∈ l, 1 ≤ szX (ws.getD a 0#64) := fun a ha => size_pos (H.good a ha).2.2
  have hle := h.le
  by_cases hq : s.qs.length < ps.length
  · have hp := hps (ps.getD s.qs.length 0) (by rw [List.getD_eq_getElem?_getD, List.getElem?_eq_getElem hq]; exact List.getElem_mem _)
    obtain ⟨q, d, hr, k1, ext, k2, k3⟩ := takeP_all H h.inv hcn (by rw [h.len]; exact hcap) hp
    obtain ⟨_, _, _, _, j5, j6, j7, _⟩ := takeP_ok h.inv.1 h.inv.2.1 hp hr
    refine ⟨⟨d, s.qs ++ [q], s.sc⟩, ?_, ?_, .inl ⟨hq, by simp, ?_⟩⟩
    · unfold onceS
      rw [if_pos hq, hr]; rfl
    · show (ps.length - (s.qs ++ [q]).length) + (m - s.sc) < (ps.length - s.qs.length) + (m - s.sc)
      simp; omega
    · refine ⟨k1, j5.trans h.len, by simp; omega, zs, ys ++ ext, hz, by rw [← List.append_assoc]; exact k2, ?_, k3 _ _ hch⟩
      exact hhd.same hsz (fun a ha => hcn.2.2.1 a (List.mem_append.2 (.inl ha))) (fun i _ h2 => j7 i (Nat.lt_of_lt_of_le (show i < s.sc from h2) hle.1))
  · have hne : s.sc < s.c.top := by
      have h1 : ¬ (s.qs.length = ps.length ∧ s.sc = s.c.top) := by unfold doneS at hd; simpa using hd
      have := h.qs
      omega
    obtain ⟨a, ys2, rfl, n1, n2, n3, n4, n5, n6, n7, n8⟩ := next_obj H h.inv hch (fun a ha => hcn.2.2.1 a (List.mem_append.2 (.inr ha))) hne
    obtain ⟨d, m0, m1, ⟨ext, m2, m3⟩, m4, m5, m6, m7⟩ := scanC_all H (P0 (s.c.T.getD s.sc 0#64)) 0 s.c (zs ++ a :: ys2) ys2 (by omega) h.inv hcn (by rw [h.len]; exact hcap) n5 n6 n4 n7
    have hx : d.T.getD s.sc 0#64 = ws.getD a 0#64 := by rw [m7 s.sc hne (by omega)]; exact n2
    refine ⟨⟨d, s.qs, s.sc + szX (s.c.T.getD s.sc 0#64)⟩, ?_, ?_, .inr ⟨hq, rfl, ?_⟩⟩
    · unfold onceS
      rw [if_neg hq, m0]; rfl
    · show (ps.length - s.qs.length) + (m - (s.sc + szX (s.c.T.getD s.sc 0#64))) < (ps.length - s.qs.length) + (m - s.sc)
      omega
    · refine ⟨m1, m5.trans h.len, h.qs, zs ++ [a], ys2 ++ ext, by simp [hz], by simpa using m2, ?_, m3⟩
      show Heads ws d.T (zs ++ [a]) 0 (s.sc + szX (s.c.T.getD s.sc 0#64))
      rw [n2]
      exact (hhd.same hsz (fun x hx2 => hcn.2.2.1 x (List.mem_append.2 (.inl hx2))) (fun i _ h2 => m7 i (by have : i < s.sc := h2; omega) (by have : i < s.sc := h2; omega))).snoc hx
theorem next_ok (H : Heap ws l b t) (hps : ∀ p ∈ ps, p = 0 ∨ (1 ≤ p ∧ p - 1 ∈ l)) (hcap : sumZ ws l ≤ m) {s : Sc} {z : Nat} (h : StI ws l b t m ps s z) :
    ∃ z', StI ws l b t m ps (nextS ps s) z' ∧ (doneS ps s = false → measS m ps (nextS ps s) < measS m ps s ∧ z' + (nextS ps s).qs.length = z + s.qs.length + 1) := by
  cases hd : doneS ps s with
  | true => exact ⟨z, by unfold nextS; rw [if_pos hd]; exact h, fun h2 => by cases h2⟩
  | false =>
    obtain ⟨s', e, h1, h2⟩ := once_ok H hps hcap h hd
    have en : nextS ps s = s' := by unfold nextS; rw [if_neg (by rw [hd]; simp), e]; rfl
    rw [en]
    rcases h2 with ⟨_, h3, h4⟩ | ⟨_, h3, h4⟩
    · exact ⟨z, h4, fun _ => ⟨h1, by omega⟩⟩
    · exact ⟨z + 1, h4, fun _ => ⟨h1, by rw [h3]; omega⟩⟩
theorem run_ok (H : Heap ws l b t) (hps : ∀ p ∈ ps, p = 0 ∨ (1 ≤ p ∧ p - 1 ∈ l)) (hcap : sumZ ws l ≤ m) : ∀ (n : Nat) (s : Sc) (z : Nat), StI ws l b t m ps s z →
    ∃ z', StI ws l b t m ps (runS ps n s) z' ∧ (doneS ps (runS ps n s) = false → measS m ps (runS ps n s) + n ≤ measS m ps s ∧ z' + (runS ps n s).qs.length = z + s.qs.length + n)
  | 0, s, z, h => ⟨z, h, fun _ => ⟨Nat.le_refl _, rfl⟩⟩
  | n + 1, s, z, h => by
    obtain ⟨z1, h1, h2⟩ := next_ok H hps hcap h
    obtain ⟨z2, h3, h4⟩ := run_ok H hps hcap n (nextS ps s) z1 h1
    refine ⟨z2, h3, fun hd => ?_⟩
    have hd0 : doneS ps s = false := by
      cases hd0 : doneS ps s with
      | false => rfl
      | true =>
        have : runS ps (n + 1) s = s := run_done hd0 _
        rw [this, hd0] at hd
        cases hd
    obtain ⟨a1, a2⟩ := h2 hd0
    obtain ⟨a3, a4⟩ := h4 hd
    show measS m ps (runS ps n (nextS ps s)) + (n + 1) ≤ _ ∧ z2 + (runS ps n (nextS ps s)).qs.length = _
    exact ⟨by omega, by omega⟩
theorem run_end (H : Heap ws l b t) (hps : ∀ p ∈ ps, p = 0 ∨ (1 ≤ p ∧ p - 1 ∈ l)) (hcap : sumZ ws l ≤ m) {n : Nat} {s : Sc} {z : Nat} (h : StI ws l b t m ps s z) (hn : measS m ps s < n) : doneS ps (runS ps n s) = true := by
  obtain ⟨_, _, h2⟩ := run_ok H hps hcap n s z h
  cases hd : doneS ps (runS ps n s) with
  | true => rfl
  | false => have := (h2 hd).1; omega
end
end Go.Proofs.Ytlibcpboooehlaa
/- Steps, in words, and how many (pure): what XStE and XStH say of no program, for a seat without step. Made out of them by a program. -/
namespace Go.Proofs.Ytlibcpboooehlaa
set_option linter.unusedVariables false
set_option linter.unusedSimpArgs false
open Go.RowKit Go.Maps
/-- A new collector. -/
def NewS (ws : List (BitVec 64)) (m : Nat) : Sc := ⟨⟨ws, List.replicate m 0#64, 0⟩, [], 0⟩
/-- What each step keeps. -/
structure SI (ws : List (BitVec 64)) (l : List Nat) (b t m : Nat) (ps : List Nat) (s : Sc) : Prop where
  inv : InvC l ws b t s.c
  len : s.c.T.length = m
  qs : s.qs.length ≤ ps.length
  ord : ∃ ys, (∀ a ∈ ys, a ∈ l) ∧ Chain ws s.c.T ys s.sc s.c.top
section
variable {ws : List (BitVec 64)} {l : List Nat} {b t m : Nat} {ps : List Nat} {s s' : Sc}
theorem StI.si {z : Nat} (h : StI ws l b t m ps s z) : SI ws l b t m ps s := by
  obtain ⟨zs, ys, _, h2, _, h4⟩ := h.ord
  exact ⟨h.inv, h.len, h.qs, ys, fun a ha => h2.2.2.1 a (List.mem_append.2 (.inr ha)), h4⟩
theorem si_start (H : Heap ws l b t) (hm : m ≤ 8192) : SI ws l b t m ps (NewS ws m) := ⟨inv_start H hm, by simp [NewS], Nat.zero_le _, [], (fun _ h => (by cases h)), rfl⟩
theorem done_no (hq : s.qs.length ≤ ps.length) (h : doneS ps s = false) (hn : ¬ s.qs.length < ps.length) : s.sc ≠ s.c.top := by
  intro e
  have : doneS ps s = true := by unfold doneS; exact decide_eq_true ⟨by omega, e⟩
  rw [this] at h; cases h
theorem SI.once (H : Heap ws l b t) (hps : ∀ p ∈ ps, p = 0 ∨ (1 ≤ p ∧ p - 1 ∈ l)) (h : SI ws l b t m ps s) (hd : doneS ps s = false) (he : onceS ps s = some s') : SI ws l b t m ps s' ∧ measS m ps s' < measS m ps s := by
  obtain ⟨ys, h1, h2⟩ := h.ord
  have hle := h2.le
  have htm : s.c.top ≤ m := by have := h.inv.2.1.2.2; rw [h.len] at this; exact this
  by_cases hq : s.qs.length < ps.length
  · have hp := hps (ps.getD s.qs.length 0) (by rw [List.getD_eq_getElem?_getD, List.getElem?_eq_getElem hq]; exact List.getElem_mem _)
    unfold onceS at he
    rw [if_pos hq] at he
    cases hr : takeP s.c (ps.getD s.qs.length 0) with
    | none => rw [hr] at he; cases he
    | some z =>
      obtain ⟨q, d⟩ := z
      rw [hr] at he
      injection he with he
      subst he
      obtain ⟨k1, ext, k2, k3⟩ := takeP_inv H h.inv hp h2 hr
      obtain ⟨_, _, _, _, j5, _⟩ := takeP_ok h.inv.1 h.inv.2.1 hp hr
      refine ⟨⟨k1, j5.trans h.len, by simp; omega, ys ++ ext, fun a ha => (List.mem_append.1 ha).elim (h1 a) (k2 a), k3⟩, ?_⟩
      show (ps.length - (s.qs ++ [q]).length) + (m - s.sc) < (ps.length - s.qs.length) + (m - s.sc)
      simp; omega
  · have hne : s.sc < s.c.top := by have := done_no h.qs hd hq; omega
    obtain ⟨a, ys2, rfl, n1, n2, n3, n4, n5, n6, n7, n8⟩ := next_obj H h.inv h2 h1 hne
    unfold onceS at he
    rw [if_neg hq] at he
    cases hr : scanC s.sc (P0 (s.c.T.getD s.sc 0#64)) 0 s.c with
    | none => rw [hr] at he; cases he
    | some d =>
      rw [hr] at he
      injection he with he
      subst he
      obtain ⟨j1, ⟨ext, j2, j3⟩, j4, j5, j6, j7⟩ := scanC_inv H (P0 (s.c.T.getD s.sc 0#64)) 0 s.c ys2 (by omega) h.inv n5 n6 n4 n7 (fun a h => h1 a (.tail _ h)) hr
      refine ⟨⟨j1, j5.trans h.len, h.qs, ys2 ++ ext, fun a h => (List.mem_append.1 h).elim (fun h => h1 a (.tail _ h)) (j2 a), j3⟩, ?_⟩
      show (ps.length - s.qs.length) + (m - (s.sc + szX (s.c.T.getD s.sc 0#64))) < (ps.length - s.qs.length) + (m - s.sc)
      omega
end
/-- So many times what is next, and how often something was done. -/
def goS (ps : List Nat) : Nat → Sc → Nat → Option (Sc × Nat)
  | 0, s, c => some (s, c)
  | k + 1, s, c => if doneS ps s = true then some (s, c) else match onceS ps s with
    | none => none
    | some s' => goS ps k s' (c + 1)
theorem goS_done {ps : List Nat} {s : Sc} (h : doneS ps s = true) (c : Nat) : ∀ k, goS ps k s c = some (s, c)
  | 0 => rfl
  | k + 1 => by unfold goS; rw [if_pos h]
section
variable {ws : List (BitVec 64)} {l : List Nat} {b t m : Nat} {ps : List Nat} {s s' : Sc} {R : Option (List Nat × Cy)}
/-- What is left to do gives R. -/
def RunR (m : Nat) (ps : List Nat) (R : Option (List Nat × Cy)) (s : Sc) : Prop :=
  (s.sc = 0 ∧ s.qs.length ≤ ps.length ∧ contC m (ps.drop s.qs.length) s.c s.qs = R) ∨ (s.qs.length = ps.length ∧ ∃ f, m + 1 ≤ s.sc + f ∧ ((goC f s.sc s.c).map fun d => (s.qs, d)) = R)
theorem run_r0 : RunR m ps (copyC ws m ps) (NewS ws m) := .inl ⟨rfl, Nat.zero_le _, (copyC_cont ws m ps).symm⟩
theorem RunR.scan (h : RunR m ps R s) (hq : s.qs.length = ps.length) : ∃ f, m + 1 ≤ s.sc + f ∧ ((goC f s.sc s.c).map fun d => (s.qs, d)) = R := by
  rcases h with ⟨h1, h2, h3⟩ | ⟨_, h2⟩
  · refine ⟨m + 1, by omega, ?_⟩
    rw [← h3, List.drop_of_length_le (by omega), h1]
    show _ = finC m s.c (s.qs ++ [])
    rw [List.append_nil]; rfl
  · exact h2
theorem RunR.next (H : Heap ws l b t) (hps : ∀ p ∈ ps, p = 0 ∨ (1 ≤ p ∧ p - 1 ∈ l)) (h : SI ws l b t m ps s) (hd : doneS ps s = false) (he : onceS ps s = some s') (r : RunR m ps R s) : RunR m ps R s' := by
  obtain ⟨ys, h1, h2⟩ := h.ord
  have htm : s.c.top ≤ m := by have := h.inv.2.1.2.2; rw [h.len] at this; exact this
  by_cases hq : s.qs.length < ps.length
  · unfold onceS at he
    rw [if_pos hq] at he
    cases hr : takeP s.c (ps.getD s.qs.length 0) with
    | none => rw [hr] at he; cases he
    | some z =>
      obtain ⟨q, d⟩ := z
      rw [hr] at he
      injection he with he
      subst he
      rcases r with ⟨r1, r2, r3⟩ | ⟨r1, _⟩
      · refine .inl ⟨r1, by simp; omega, ?_⟩
        rw [List.drop_eq_getElem_cons hq, contC_cons] at r3
        have e : ps.getD s.qs.length 0 = ps[s.qs.length] := by rw [List.getD_eq_getElem?_getD, List.getElem?_eq_getElem hq]; rfl
        rw [e] at hr
        rw [hr] at r3
        simpa using r3
      · omega
  · have hne : s.sc < s.c.top := by have := done_no h.qs hd hq; have := h2.le; omega
    obtain ⟨a, ys2, rfl, n1, n2, n3, n4, n5, n6, n7, n8⟩ := next_obj H h.inv h2 h1 hne
    obtain ⟨f, r1, r2⟩ := r.scan (by have := h.qs; omega)
    obtain ⟨f', rfl⟩ : ∃ f', f = f' + 1 := ⟨f - 1, by omega⟩
    have hgo : goC (f' + 1) s.sc s.c = match scanC s.sc (P0 (s.c.T.getD s.sc 0#64)) 0 s.c with
        | none => none
        | some z => goC f' (s.sc + szX (z.T.getD s.sc 0#64)) z := by
      show (if s.sc < s.c.top then _ else _) = _
      rw [if_pos hne]
      cases scanC s.sc (P0 (s.c.T.getD s.sc 0#64)) 0 s.c <;> rfl
    rw [hgo] at r2
    unfold onceS at he
    rw [if_neg hq] at he
    cases hr : scanC s.sc (P0 (s.c.T.getD s.sc 0#64)) 0 s.c with
    | none => rw [hr] at he; cases he
    | some d =>
      rw [hr] at he r2
      injection he with he
      subst he
      obtain ⟨j1, ⟨ext, j2, j3⟩, j4, j5, j6, j7⟩ := scanC_inv H (P0 (s.c.T.getD s.sc 0#64)) 0 s.c ys2 (by omega) h.inv n5 n6 n4 n7 (fun a h => h1 a (.tail _ h)) hr
      have hza : d.T.getD s.sc 0#64 = s.c.T.getD s.sc 0#64 := j7 s.sc (by omega) (by omega)
      have r2 : Option.map (fun d => (s.qs, d)) (goC f' (s.sc + szX (d.T.getD s.sc 0#64)) d) = R := r2
      rw [hza] at r2
      have hqq := h.qs
      exact .inr ⟨show s.qs.length = ps.length by omega, f', show m + 1 ≤ s.sc + szX (s.c.T.getD s.sc 0#64) + f' by omega, r2⟩
theorem RunR.end_ (r : RunR m ps R s) (hd : doneS ps s = true) : R = some (s.qs, s.c) := by
  have hd : s.qs.length = ps.length ∧ s.sc = s.c.top := of_decide_eq_true hd
  obtain ⟨f, _, r2⟩ := r.scan hd.1
  have hgo : goC f s.sc s.c = some s.c := by
    cases f with
    | zero => rfl
    | succ f' => show (if s.sc < s.c.top then _ else _) = _; rw [if_neg (by omega)]
  rw [hgo] at r2
  exact r2.symm
/-- A collector with room for all: so many times something was done. -/
structure LawI (ws : List (BitVec 64)) (l : List Nat) (b t m : Nat) (ps : List Nat) (R : Option (List Nat × Cy)) (s : Sc) (c : Nat) : Prop where
  st : ∃ z, StI ws l b t m ps s z ∧ z + s.qs.length = c
  run : RunR m ps R s
theorem LawI.si {c : Nat} (h : LawI ws l b t m ps R s c) : SI ws l b t m ps s := h.st.elim fun _ h => h.1.si
theorem law_start (H : Heap ws l b t) (hm : m ≤ 8192) : LawI ws l b t m ps (copyC ws m ps) (NewS ws m) 0 := ⟨⟨0, st_start H hm, rfl⟩, run_r0⟩
theorem law_once (H : Heap ws l b t) (hps : ∀ p ∈ ps, p = 0 ∨ (1 ≤ p ∧ p - 1 ∈ l)) (hcap : sumZ ws l ≤ m) {c : Nat} (h : LawI ws l b t m ps R s c) (hd : doneS ps s = false) : ∃ s', onceS ps s = some s' ∧ LawI ws l b t m ps R s' (c + 1) ∧ measS m ps s' < measS m ps s := by
  obtain ⟨z, h1, h2⟩ := h.st
  obtain ⟨s', e, k1, k2⟩ := once_ok H hps hcap h1 hd
  refine ⟨s', e, ⟨?_, RunR.next H hps h1.si hd e h.run⟩, k1⟩
  rcases k2 with ⟨_, k3, k4⟩ | ⟨_, k3, k4⟩
  · exact ⟨z, k4, by omega⟩
  · exact ⟨z + 1, k4, by rw [k3]; omega⟩
theorem law_go (H : Heap ws l b t) (hps : ∀ p ∈ ps, p = 0 ∨ (1 ≤ p ∧ p - 1 ∈ l)) (hcap : sumZ ws l ≤ m) : ∀ (k : Nat) (s : Sc) (c : Nat), LawI ws l b t m ps R s c →
    ∃ s' c', goS ps k s c = some (s', c') ∧ LawI ws l b t m ps R s' c' ∧ c' + measS m ps s' ≤ c + measS m ps s ∧ c ≤ c' ∧ c' ≤ c + k ∧ (doneS ps s' = true ∨ c' = c + k)
  | 0, s, c, h => ⟨s, c, rfl, h, Nat.le_refl _, Nat.le_refl _, Nat.le_refl _, .inr rfl⟩
  | k + 1, s, c, h => by
    cases hd : doneS ps s with
    | true => exact ⟨s, c, goS_done hd c _, h, Nat.le_refl _, Nat.le_refl _, by omega, .inl hd⟩
    | false =>
      obtain ⟨s1, e1, h1, m1⟩ := law_once H hps hcap h hd
      obtain ⟨s2, c2, e2, h2, m2, n2, n3, d2⟩ := law_go H hps hcap k s1 (c + 1) h1
      refine ⟨s2, c2, ?_, h2, by omega, by omega, by omega, d2.imp id (fun h => by omega)⟩
      unfold goS
      rw [if_neg (by rw [hd]; simp), e1]
      exact e2
theorem meas_end (h : SI ws l b t m ps s) (hd : doneS ps s = false) : 1 ≤ measS m ps s := by
  obtain ⟨ys, h1, h2⟩ := h.ord
  have hle := h2.le
  have htm : s.c.top ≤ m := by have := h.inv.2.1.2.2; rw [h.len] at this; exact this
  unfold measS
  by_cases hq : s.qs.length < ps.length
  · omega
  · have := done_no h.qs hd hq; omega
/-- All is copied in the end. -/
theorem law_end (H : Heap ws l b t) (hps : ∀ p ∈ ps, p = 0 ∨ (1 ≤ p ∧ p - 1 ∈ l)) (hcap : sumZ ws l ≤ m) {c : Nat} (h : LawI ws l b t m ps R s c) : ∃ s' c', goS ps (measS m ps s) s c = some (s', c') ∧ LawI ws l b t m ps R s' c' ∧ doneS ps s' = true ∧ c ≤ c' ∧ (doneS ps s = false → c < c') := by
  obtain ⟨s', c', e, h1, h2, h3, h4, h5⟩ := law_go H hps hcap (measS m ps s) s c h
  have hd' : doneS ps s' = true := by
    cases hd : doneS ps s' with
    | true => rfl
    | false =>
      have := meas_end h1.si hd
      rcases h5 with h5 | h5
      · rw [hd] at h5; cases h5
      · omega
  refine ⟨s', c', e, h1, hd', h3, fun hd => ?_⟩
  have hm := meas_end h.si hd
  obtain ⟨k, hk⟩ : ∃ k, measS m ps s = k + 1 := ⟨measS m ps s - 1, by omega⟩
  obtain ⟨s1, e1, g1, m1⟩ := law_once H hps hcap h hd
  obtain ⟨s2, c2, e2, g2, m2, n2, _⟩ := law_go H hps hcap k s1 (c + 1) g1
  rw [hk] at e
  unfold goS at e
  rw [if_neg (by rw [hd]; simp), e1] at e
  have e : goS ps k s1 (c + 1) = some (s', c') := e
  rw [e2] at e
  injection e with e
  injection e with e3 e4
  omega
/-- The objects of a space, counted. -/
theorem heads_obj {T : List (BitVec 64)} {top : Nat} (hz : ∀ a ∈ l, goodX (ws.getD a 0#64) 1000000 = true) : ∀ (n : Nat) (r : List Nat) (p : Nat), (∀ a ∈ r, a ∈ l) → Heads ws T r p top → top < p + n → ∃ l', objF T top n p = some l' ∧ l'.length = r.length
  | 0, r, p, _, h, hn => by have := h.sum; omega
  | n + 1, [], p, _, h, _ => by
    have h : p = top := h
    refine ⟨[], ?_, rfl⟩
    show (if p < top then _ else _) = _
    rw [if_neg (by omega)]
  | n + 1, a :: r, p, hr, h, hn => by
    obtain ⟨h1, h2⟩ := h
    have hg := hz a (hr a (.head _))
    have hs := size_pos hg
    have hle := h2.sum
    obtain ⟨l', e1, e2⟩ := heads_obj hz n r (p + szX (ws.getD a 0#64)) (fun x hx => hr x (.tail _ hx)) h2 (by omega)
    refine ⟨p :: l', ?_, by simp [e2]⟩
    show (if p < top then (if goodX (T.getD p 0#64) (top - p) = true then (objF T top n (p + szX (T.getD p 0#64))).map (p :: ·) else none) else some []) = _
    have hgT : goodX (T.getD p 0#64) (top - p) = true := by
      rw [h1]
      obtain ⟨g1, g2, g3⟩ := goodX_out hg
      unfold goodX
      rw [g1, g2]
      exact decide_eq_true (by omega)
    rw [if_pos (by omega), if_pos hgT, h1, e1]
    rfl
/-- How many times something was done in all. -/
theorem law_count (H : Heap ws l b t) {c : Nat} (h : LawI ws l b t m ps R s c) (hd : doneS ps s = true) : ∃ l', objF s.c.T s.c.top (s.c.top + 1) 0 = some l' ∧ c = l'.length + ps.length := by
  have hd : s.qs.length = ps.length ∧ s.sc = s.c.top := of_decide_eq_true hd
  obtain ⟨z, h1, h2⟩ := h.st
  obtain ⟨zs, ys, e1, e2, e3, _⟩ := h1.ord
  rw [hd.2] at e3
  obtain ⟨l', k1, k2⟩ := heads_obj (l := l) (fun a ha => by
    have hg := (H.good a ha).2.2
    obtain ⟨g1, g2, g3⟩ := goodX_out hg
    have := H.tl
    have := H.wl
    unfold goodX
    rw [g1, g2]
    exact decide_eq_true (by omega)) (s.c.top + 1) zs 0 (fun a ha => e2.2.2.1 a (List.mem_append.2 (.inl ha))) e3 (by omega)
  exact ⟨l', k1, by omega⟩
end
end Go.Proofs.Ytlibcpboooehlaa
/- The order in which a copy was made, read off the copy (pure). Conditions: the space is well. -/
namespace Go.Proofs.Ytlibcpboooehlaa
set_option linter.unusedVariables false
set_option linter.unusedSimpArgs false
open Go.RowKit Go.Maps
/-- A pointer of the copy, when so many words are taken: how many are then. -/
def trk (T : List (BitVec 64)) (top q : Nat) : Option Nat := if q = 0 then some top else if q - 1 < top then some top else if q - 1 = top then some (top + szX (T.getD top 0#64)) else none
def trkScan (T : List (BitVec 64)) (at_ : Nat) : Nat → Nat → Nat → Option Nat
  | 0, _, t => some t
  | n + 1, i, t => (trk T t (T.getD (at_ + 1 + i) 0#64).toNat).bind fun t' => trkScan T at_ n (i + 1) t'
def trkGo (T : List (BitVec 64)) : Nat → Nat → Nat → Option Nat
  | 0, _, t => some t
  | f + 1, at_, t => if at_ < t then (trkScan T at_ (P0 (T.getD at_ 0#64)) 0 t).bind fun t' => trkGo T f (at_ + szX (T.getD at_ 0#64)) t' else some t
def trkRoots (T : List (BitVec 64)) : List Nat → Nat → Option Nat
  | [], t => some t
  | q :: qs, t => (trk T t q).bind fun t' => trkRoots T qs t'
section
variable {ws T : List (BitVec 64)} {l : List Nat} {b t : Nat} {c d : Cy}
theorem Heads.split : ∀ {x y : List Nat} {p q : Nat}, Heads ws T (x ++ y) p q → Heads ws T x p (p + sumZ ws x) ∧ Heads ws T y (p + sumZ ws x) q
  | [], y, p, q, h => ⟨rfl, h⟩
  | a :: x, y, p, q, h => by
    obtain ⟨h1, h2⟩ := Heads.split (x := x) h.2
    have e : p + sumZ ws (a :: x) = p + szX (ws.getD a 0#64) + sumZ ws x := by show p + (szX _ + sumZ ws x) = _; omega
    rw [e]
    exact ⟨⟨h.1, h1⟩, h2⟩
theorem Chain.sum : ∀ {ys : List Nat} {p q : Nat}, Chain ws T ys p q → p + sumZ ws ys = q
  | [], _, _, h => h
  | a :: ys, p, q, h => by have := Chain.sum (ys := ys) h.2; show p + (szX _ + sumZ ws ys) = q; omega
/-- One pointer that is taken. -/
theorem take_trk (H : Heap ws l b t) (h : InvC l ws b t c) {k q p0 : Nat} {ys : List Nat} (hk : k = 0 ∨ (1 ≤ k ∧ k - 1 ∈ l)) (hc : Chain ws c.T ys p0 c.top) (e : takeP c k = some (q, d)) :
    InvC l ws b t d ∧ ∃ ext, (∀ a ∈ ext, a ∈ l) ∧ Chain ws d.T (ys ++ ext) p0 d.top ∧ c.top + sumZ ws ext = d.top ∧ ∀ T, Heads ws T ext c.top d.top → trk T c.top q = some d.top := by
  obtain ⟨o1, o2, o3, o4, o5, o6, k7, o8⟩ := takeP_ok h.1 h.2.1 hk e
  cases k with
  | zero =>
    have e : some (0, c) = some (q, d) := e
    injection e with e
    injection e with e1 e2
    subst e1 e2
    exact ⟨h, [], fun _ h => (by cases h), by rw [List.append_nil]; exact hc, rfl, fun T _ => rfl⟩
  | succ a =>
    have ha : a ∈ l := by
      rcases hk with hk | ⟨_, hk⟩
      · cases hk
      · simpa using hk
    cases hr : takeC c a with
    | none =>
      have e : (takeC c a).map _ = some (q, d) := e
      rw [hr] at e; cases e
    | some z =>
      obtain ⟨u, d2⟩ := z
      have e : (takeC c a).map _ = some (q, d) := e
      rw [hr] at e
      injection e with e
      injection e with e1 e2
      have e2 : d2 = d := e2
      have e1 : u + 1 = q := e1
      subst e2
      obtain ⟨i1, i2⟩ := takeC_inv H h ha hr
      rcases i2 with ⟨rfl, hm⟩ | ⟨_, _, e3, e4, e5⟩
      · have hu : u < d2.top := by
          rcases (h.1 a ha).2.2.2.2 with ⟨_, h2⟩ | h2
          · have : takeC d2 a = some ((fT (d2.F.getD a 0#64)).toNat, d2) := by unfold takeC; rw [if_pos hm]
            rw [this] at hr
            injection hr with hr
            injection hr with hr
            omega
          · rw [(goodX_out h2).2.1] at hm; cases hm
        refine ⟨h, [], fun _ h => (by cases h), by rw [List.append_nil]; exact hc, rfl, fun T _ => ?_⟩
        unfold trk
        rw [if_neg (by omega), if_pos (by omega)]
      · refine ⟨i1, [a], fun x hx => by rw [List.mem_singleton.1 hx]; exact ha, ?_, by rw [e4]; rfl, fun T hT => ?_⟩
        · rw [e4]
          exact (hc.same (fun i _ h2 => k7 i h2)).snoc e5
        · unfold trk
          have h1 : T.getD c.top 0#64 = ws.getD a 0#64 := hT.1
          rw [if_neg (by omega), if_neg (by omega), if_pos (by omega), h1, e4]
/-- An object that is scanned. -/
theorem scan_trk (H : Heap ws l b t) {at_ P p1 : Nat} : ∀ (n i : Nat) (c : Cy) (ys : List Nat) {d : Cy}, n + i = P → InvC l ws b t c → at_ + 1 + P ≤ p1 → p1 ≤ c.top → PtL l c at_ P i → Chain ws c.T ys p1 c.top → scanC at_ n i c = some d →
    ∃ ext, (∀ a ∈ ext, a ∈ l) ∧ Chain ws d.T (ys ++ ext) p1 d.top ∧ c.top + sumZ ws ext = d.top ∧ InvC l ws b t d ∧ (∀ j, j < c.top → ¬ (at_ + 1 + i ≤ j ∧ j < at_ + 1 + P) → d.T.getD j 0#64 = c.T.getD j 0#64) ∧ ∀ T, (∀ j, at_ + 1 + i ≤ j → j < at_ + 1 + P → T.getD j 0#64 = d.T.getD j 0#64) → Heads ws T ext c.top d.top → trkScan T at_ n i c.top = some d.top
  | 0, i, c, ys, d, _, h, _, _, _, hc, e => by
    have e : some c = some d := e
    injection e with e
    subst e
    exact ⟨[], fun _ h => (by cases h), by rw [List.append_nil]; exact hc, rfl, h, fun _ _ _ => rfl, fun T _ _ => rfl⟩
  | n + 1, i, c, ys, d, hn, h, hp1, hpt, hp, hch, e => by
    have hi : i < P := by omega
    have e : (match takeP c (c.T.getD (at_ + 1 + i) 0#64).toNat with | none => none | some (p, z) => scanC at_ n (i + 1) (setC z (at_ + 1 + i) p)) = some d := e
    cases hr : takeP c (c.T.getD (at_ + 1 + i) 0#64).toNat with
    | none => rw [hr] at e; cases e
    | some w =>
      obtain ⟨q, z⟩ := w
      rw [hr] at e
      have e : scanC at_ n (i + 1) (setC z (at_ + 1 + i) q) = some d := e
      obtain ⟨k1, x1, k2, k3, k4, k5⟩ := take_trk H h (hp i (Nat.le_refl _) hi) hch hr
      obtain ⟨j1, j2, j3, j4, j5, j6, j7, j8, j9⟩ := scan_step h.1 h.2.1 hi (by omega) hp hr
      have hin : at_ + 1 + i < z.T.length := by have := h.2.1.2.2; omega
      have hset : Chain ws (setC z (at_ + 1 + i) q).T (ys ++ x1) p1 (setC z (at_ + 1 + i) q).top := by
        refine k3.same (fun j h1 _ => ?_)
        unfold setC
        rw [getD_set hin, if_neg (by omega)]
      have hqt : q ≤ z.top ∧ z.top ≤ 8192 := by
        obtain ⟨_, o2, o3, _⟩ := takeP_ok h.1 h.2.1 (hp i (Nat.le_refl _) hi) hr
        exact ⟨o3, by have := o2.2.1; have := o2.2.2; omega⟩
      obtain ⟨x2, m1, m2, m3, m4, m5, m6⟩ := scan_trk H n (i + 1) (setC z (at_ + 1 + i) q) (ys ++ x1) (by omega) ⟨j1, j2, k1.2.2.1, k1.2.2.2.1, k1.2.2.2.2⟩ hp1 (show p1 ≤ z.top by omega) j3 hset e
      have ht : (setC z (at_ + 1 + i) q).top = z.top := rfl
      rw [ht] at m3 m6 m5
      refine ⟨x1 ++ x2, fun a ha => (List.mem_append.1 ha).elim (k2 a) (m1 a), by rw [← List.append_assoc]; exact m2, by rw [sum_app]; omega, m4, fun j hj hne => ?_, fun T hT hH => ?_⟩
      · rw [m5 j (by omega) (by omega)]
        exact j9 j hj (by omega)
      · obtain ⟨g1, g2⟩ := hH.split
        rw [k4] at g1 g2
        have hw : T.getD (at_ + 1 + i) 0#64 = BitVec.ofNat 64 q := by
          rw [hT _ (Nat.le_refl _) (by omega), m5 (at_ + 1 + i) (by omega) (by omega)]
          unfold setC
          rw [getD_set hin, if_pos rfl]
        have hn : (T.getD (at_ + 1 + i) 0#64).toNat = q := by rw [hw]; exact ofNat_nat (by omega)
        show (trk T c.top (T.getD (at_ + 1 + i) 0#64).toNat).bind _ = _
        rw [hn, k5 T g1]
        exact m6 T (fun j h1 h2 => hT j (by omega) h2) g2
/-- All that is scanned. -/
theorem go_trk (H : Heap ws l b t) : ∀ (f at_ : Nat) (c : Cy) (ys : List Nat) {d : Cy}, InvC l ws b t c → (∀ a ∈ ys, a ∈ l) → Chain ws c.T ys at_ c.top → c.T.length < f + at_ → goC f at_ c = some d →
    InvC l ws b t d ∧ (∀ j, j < at_ → d.T.getD j 0#64 = c.T.getD j 0#64) ∧ (∃ ext, (∀ a ∈ ext, a ∈ l) ∧ Heads ws d.T (ys ++ ext) at_ d.top) ∧ d.T.length = c.T.length ∧ trkGo d.T f at_ c.top = some d.top
  | 0, at_, c, ys, d, h, ha, hc, hf, e => by
    have := hc.le
    have := h.2.1.2.2
    omega
  | f + 1, at_, c, ys, d, h, ha, hc, hf, e => by
    by_cases hlt : at_ < c.top
    · obtain ⟨a, ys2, rfl, n1, n2, n3, n4, n5, n6, n7, n8⟩ := next_obj H h hc ha hlt
      have e : (if at_ < c.top then (match scanC at_ (P0 (c.T.getD at_ 0#64)) 0 c with | none => none | some z => goC f (at_ + szX (z.T.getD at_ 0#64)) z) else some c) = some d := e
      rw [if_pos hlt] at e
      cases hr : scanC at_ (P0 (c.T.getD at_ 0#64)) 0 c with
      | none => rw [hr] at e; cases e
      | some z =>
        rw [hr] at e
        have e : goC f (at_ + szX (z.T.getD at_ 0#64)) z = some d := e
        obtain ⟨x1, m1, m2, m3, m4, m5, m6⟩ := scan_trk H (P0 (c.T.getD at_ 0#64)) 0 c ys2 (by omega) h n5 n6 n4 n7 hr
        obtain ⟨_, _, _, i5, _, _⟩ := scanC_inv H (P0 (c.T.getD at_ 0#64)) 0 c ys2 (by omega) h n5 n6 n4 n7 (fun a h => ha a (.tail _ h)) hr
        have hza : z.T.getD at_ 0#64 = c.T.getD at_ 0#64 := m5 at_ hlt (by omega)
        rw [hza] at e
        obtain ⟨g1, g2, ⟨x2, g3, g4⟩, g5, g6⟩ := go_trk H f _ z (ys2 ++ x1) m4 (fun a h => (List.mem_append.1 h).elim (fun h => ha a (.tail _ h)) (m1 a)) m2 (by omega) e
        have hda : d.T.getD at_ 0#64 = c.T.getD at_ 0#64 := by rw [g2 at_ (by omega), hza]
        refine ⟨g1, fun j hj => by rw [g2 j (by omega), m5 j (by omega) (by omega)], ⟨x1 ++ x2, fun a h => (List.mem_append.1 h).elim (m1 a) (g3 a), ?_⟩, g5.trans i5, ?_⟩
        · refine ⟨hda.trans n2, ?_⟩
          rw [← n2]
          have g4' := g4
          rw [List.append_assoc] at g4'
          exact g4'
        · have hs := n7.sum
          obtain ⟨q1, q2⟩ := g4.split
          obtain ⟨q3, q4⟩ := q1.split
          rw [hs] at q4
          have e5 : at_ + szX (c.T.getD at_ 0#64) + sumZ ws (ys2 ++ x1) = z.top := by rw [sum_app]; omega
          rw [e5] at q4
          show (if at_ < c.top then (trkScan d.T at_ (P0 (d.T.getD at_ 0#64)) 0 c.top).bind fun t' => trkGo d.T f (at_ + szX (d.T.getD at_ 0#64)) t' else some c.top) = _
          rw [if_pos hlt, hda, m6 d.T (fun j h1 h2 => g2 j (by omega)) q4]
          exact g6
    · have e : (if at_ < c.top then _ else some c) = some d := e
      rw [if_neg hlt] at e
      injection e with e
      subst e
      have hle := hc.le
      obtain rfl : ys = [] := by
        cases ys with
        | nil => rfl
        | cons a ys => have := hc.sum; have hs := size_pos (H.good a (ha a (.head _))).2.2; have : at_ + (szX (ws.getD a 0#64) + sumZ ws ys) = c.top := this; omega
      refine ⟨h, fun _ _ => rfl, ⟨[], fun _ h => (by cases h), by show at_ = c.top; omega⟩, rfl, ?_⟩
      show (if at_ < c.top then _ else some c.top) = _
      rw [if_neg hlt]
/-- The roots. -/
theorem roots_trk (H : Heap ws l b t) : ∀ (ps : List Nat) (c : Cy) (ys : List Nat) (p0 : Nat) {qs : List Nat} {d : Cy}, (∀ p ∈ ps, p = 0 ∨ (1 ≤ p ∧ p - 1 ∈ l)) → InvC l ws b t c → Chain ws c.T ys p0 c.top → rootsC ps c = some (qs, d) →
    InvC l ws b t d ∧ d.T.length = c.T.length ∧ ∃ ext, (∀ a ∈ ext, a ∈ l) ∧ Chain ws d.T (ys ++ ext) p0 d.top ∧ c.top + sumZ ws ext = d.top ∧ ∀ T, Heads ws T ext c.top d.top → trkRoots T qs c.top = some d.top
  | [], c, ys, p0, qs, d, _, h, hc, e => by
    have e : some (([] : List Nat), c) = some (qs, d) := e
    injection e with e
    injection e with e1 e2
    subst e1 e2
    exact ⟨h, rfl, [], fun _ h => (by cases h), by rw [List.append_nil]; exact hc, rfl, fun T _ => rfl⟩
  | p :: ps, c, ys, p0, qs, d, hp, h, hc, e => by
    have e : (match takeP c p with | none => none | some (q, z) => match rootsC ps z with | none => none | some (qs, e) => some (q :: qs, e)) = some (qs, d) := e
    cases hr : takeP c p with
    | none => rw [hr] at e; cases e
    | some w =>
      obtain ⟨q, z⟩ := w
      rw [hr] at e
      obtain ⟨k1, x1, k2, k3, k4, k5⟩ := take_trk H h (hp p (.head _)) hc hr
      have hlen := (takeP_ok h.1 h.2.1 (hp p (.head _)) hr).2.2.2.2.1
      have e : (match rootsC ps z with | none => none | some (qs, e) => some (q :: qs, e)) = some (qs, d) := e
      cases hr2 : rootsC ps z with
      | none => rw [hr2] at e; cases e
      | some w2 =>
        obtain ⟨q2, z2⟩ := w2
        rw [hr2] at e
        injection e with e
        injection e with e1 e2
        subst e1 e2
        obtain ⟨m0, m9, x2, m1, m2, m3, m4⟩ := roots_trk H ps z (ys ++ x1) p0 (fun p h => hp p (.tail _ h)) k1 k3 hr2
        refine ⟨m0, m9.trans hlen, x1 ++ x2, fun a h => (List.mem_append.1 h).elim (k2 a) (m1 a), by rw [← List.append_assoc]; exact m2, by rw [sum_app]; omega, fun T hT => ?_⟩
        obtain ⟨g1, g2⟩ := hT.split
        rw [k4] at g1 g2
        show (trk T c.top q).bind _ = _
        rw [k5 T g1]
        exact m4 T g2
/-- A copy's own order. -/
theorem copy_trk (H : Heap ws l b t) {m : Nat} (hm : m ≤ 8192) {ps qs : List Nat} (hps : ∀ p ∈ ps, p = 0 ∨ (1 ≤ p ∧ p - 1 ∈ l)) (e : copyC ws m ps = some (qs, d)) :
    InvC l ws b t d ∧ d.T.length = m ∧ (∃ zs, (∀ a ∈ zs, a ∈ l) ∧ Heads ws d.T zs 0 d.top) ∧ ∃ t1, trkRoots d.T qs 0 = some t1 ∧ trkGo d.T (m + 1) 0 t1 = some d.top := by
  unfold copyC at e
  cases hr : rootsC ps ⟨ws, List.replicate m 0#64, 0⟩ with
  | none => rw [hr] at e; cases e
  | some w =>
    obtain ⟨q2, c1⟩ := w
    rw [hr] at e
    have e : (goC (m + 1) 0 c1).map (fun d => (q2, d)) = some (qs, d) := e
    cases hg : goC (m + 1) 0 c1 with
    | none => rw [hg] at e; cases e
    | some d2 =>
      rw [hg] at e
      injection e with e
      injection e with e1 e2
      subst e1 e2
      obtain ⟨m0, m9, x, m1, m2, m3, m4⟩ := roots_trk H ps _ [] 0 hps (inv_start H hm) (rfl : Chain ws _ [] 0 0) hr
      rw [List.nil_append] at m2
      have hl : c1.T.length = m := by rw [m9]; simp
      obtain ⟨g1, _, ⟨x2, g3, g4⟩, g5, g6⟩ := go_trk H (m + 1) 0 c1 x m0 m1 m2 (by omega) hg
      refine ⟨g1, g5.trans hl, ⟨x ++ x2, fun a h => (List.mem_append.1 h).elim (m1 a) (g3 a), g4⟩, c1.top, ?_, g6⟩
      have m3 : 0 + sumZ ws x = c1.top := m3
      have := g4.split.1
      rw [m3] at this
      exact m4 d2.T this
end
end Go.Proofs.Ytlibcpboooehlaa
/- A copy, copied again, is the same (pure). Conditions: the copy is a well space. -/
namespace Go.Proofs.Ytlibcpboooehlaa
set_option linter.unusedVariables false
set_option linter.unusedSimpArgs false
open Go.RowKit Go.Maps
section
variable {T : List (BitVec 64)} {l : List Nat} {t top : Nat} {c d : Cy}
/-- So far the copy of T is T itself. -/
structure Agr (T : List (BitVec 64)) (l : List Nat) (top : Nat) (c : Cy) (t : Nat) : Prop where
  inv : InvC l T 0 top c
  tp : c.top = t
  wds : ∀ j, j < t → c.T.getD j 0#64 = T.getD j 0#64
  mv : ∀ a ∈ l, a < t → fM (c.F.getD a 0#64) = true ∧ (fT (c.F.getD a 0#64)).toNat = a
  st : ∀ a ∈ l, t ≤ a → fM (c.F.getD a 0#64) = false
  le : t ≤ top
  full : ∀ a ∈ l, a < t → a + szX (T.getD a 0#64) ≤ t
theorem agr_start (H : Heap T l 0 top) {m : Nat} (hm : m ≤ 8192) : Agr T l top ⟨T, List.replicate m 0#64, 0⟩ 0 :=
  ⟨inv_start H hm, rfl, fun _ h => absurd h (Nat.not_lt_zero _), fun _ _ h => absurd h (Nat.not_lt_zero _), fun a ha _ => (goodX_out (H.good a ha).2.2).2.1, Nat.zero_le _, fun _ _ h => absurd h (Nat.not_lt_zero _)⟩
theorem Agr.take (H : Heap T l 0 top) (h : Agr T l top c t) {k q t' : Nat} (hk : k = 0 ∨ (1 ≤ k ∧ k - 1 ∈ l)) (ht : trk T t k = some t') (e : takeP c k = some (q, d)) : q = k ∧ Agr T l top d t' := by
  obtain ⟨_, _, _, _, _, o6, k7, _⟩ := takeP_ok h.inv.1 h.inv.2.1 hk e
  cases k with
  | zero =>
    have e : some (0, c) = some (q, d) := e
    injection e with e
    injection e with e1 e2
    subst e1 e2
    have ht : some t = some t' := ht
    injection ht with ht
    subst ht
    exact ⟨rfl, h⟩
  | succ a =>
    have ha : a ∈ l := by
      rcases hk with hk | ⟨_, hk⟩
      · cases hk
      · simpa using hk
    cases hr : takeC c a with
    | none =>
      have e : (takeC c a).map _ = some (q, d) := e
      rw [hr] at e; cases e
    | some z =>
      obtain ⟨u, d2⟩ := z
      have e : (takeC c a).map _ = some (q, d) := e
      rw [hr] at e
      injection e with e
      injection e with e1 e2
      have e2 : d2 = d := e2
      have e1 : u + 1 = q := e1
      subst e2
      unfold trk at ht
      rw [if_neg (by omega)] at ht
      by_cases hat : a < t
      · rw [if_pos (by omega)] at ht
        injection ht with ht
        subst ht
        obtain ⟨m1, m2⟩ := h.mv a ha hat
        have : takeC c a = some ((fT (c.F.getD a 0#64)).toNat, c) := by unfold takeC; rw [if_pos m1]
        rw [this] at hr
        injection hr with hr
        injection hr with h1 h2
        subst h2
        exact ⟨by omega, h⟩
      · rw [if_neg (by omega)] at ht
        by_cases hae : a = t
        · rw [if_pos (by omega)] at ht
          injection ht with ht
          have hm := h.st a ha (by omega)
          obtain ⟨i1, i2⟩ := takeC_inv H h.inv ha hr
          rcases i2 with ⟨_, hm2⟩ | ⟨_, hd2, e3, e4, e5⟩
          · rw [hm] at hm2; cases hm2
          · have hat2 : a = c.top := by rw [h.tp]; exact hae
            have hs := size_pos (H.good a ha).2.2
            have hlen : a < c.F.length := by have := H.tl; have := (H.good a ha).2.1; rw [h.inv.2.2.1]; omega
            have hF : d2.F = c.F.set a (goneW c.top) := by rw [hd2]; rfl
            clear hd2
            have htl : c.top < 8192 := by have := (H.good a ha).2.1; have := H.tl; have := H.wl; omega
            have G := Lib.hid (gone_ok htl)
            have ht2 : d2.top = t' := by rw [e4, ← ht, ← hae, hat2]
            have hsz := (goodX_out (H.good a ha).2.2).2.2
            have hna : ∀ x ∈ l, t ≤ x → x < t' → x = a := fun x hx h1 h2 => by
              by_cases ex : x = a
              · exact ex
              · exfalso
                exact H.gap a ha (x - a) (by omega) (by omega) (by rw [show a + (x - a) = x from by omega]; exact hx)
            refine ⟨by omega, i1, ht2, fun j hj => ?_, fun x hx hlt => ?_, fun x hx hle => ?_, by have := (H.good a ha).2.1; omega, fun x hx hlt => ?_⟩
            · by_cases hj2 : j < c.top
              · rw [k7 j hj2]; exact h.wds j (by rw [← h.tp]; exact hj2)
              · have h1 := e5 (j - c.top) (by omega)
                rw [show c.top + (j - c.top) = j from by omega, show a + (j - c.top) = j from by omega] at h1
                exact h1
            · rw [hF, getD_set hlen]
              by_cases ex : a = x
              · rw [if_pos ex]; exact ⟨G.out.2.1, by rw [G.out.2.2]; omega⟩
              · rw [if_neg ex]
                refine h.mv x hx ?_
                rcases Nat.lt_or_ge x t with h1 | h1
                · exact h1
                · exfalso
                  exact H.gap a ha (x - a) (by omega) (by omega) (by rw [show a + (x - a) = x from by omega]; exact hx)
            · rw [hF, getD_set hlen, if_neg (by omega)]
              exact h.st x hx (by omega)
            · by_cases hx2 : x < t
              · have := h.full x hx hx2; omega
              · have := hna x hx (by omega) hlt
                subst this
                omega
        · rw [if_neg (by omega)] at ht; cases ht
theorem head_ptrs {x : BitVec 64} {room : Nat} (h : goodX x room = true) : 1 + P0 x ≤ szX x := by
  obtain ⟨hv, _, _, hsx, hsz, hroom⟩ := head_of h
  omega
theorem scan_len (H : Heap T l 0 top) {at_ P : Nat} (n i : Nat) (c : Cy) (h : InvC l T 0 top c) (hp : PtL l c at_ P i) (hn : n + i = P) (hat : at_ + 1 + P ≤ c.top) {d : Cy} (e : scanC at_ n i c = some d) : d.T.length = c.T.length ∧ c.top ≤ d.top := by
  obtain ⟨_, _, h3, h4, _⟩ := scanC_inv H n i c [] hn h hat (Nat.le_refl _) hp rfl (fun _ h => by cases h) e
  exact ⟨h4, h3⟩
theorem Agr.scan (H : Heap T l 0 top) {at_ P : Nat} (hP : ∀ k, k < P → (T.getD (at_ + 1 + k) 0#64).toNat = 0 ∨ (1 ≤ (T.getD (at_ + 1 + k) 0#64).toNat ∧ (T.getD (at_ + 1 + k) 0#64).toNat - 1 ∈ l)) : ∀ (n i : Nat) (c : Cy) {t t' : Nat} {d : Cy}, n + i = P → at_ + 1 + P ≤ t → Agr T l top c t → trkScan T at_ n i t = some t' → scanC at_ n i c = some d → Agr T l top d t'
  | 0, i, c, t, t', d, _, _, h, ht, e => by
    have e : some c = some d := e
    injection e with e
    subst e
    have ht : some t = some t' := ht
    injection ht with ht
    subst ht
    exact h
  | n + 1, i, c, t, t', d, hn, hat, h, ht, e => by
    have hi : i < P := by omega
    have hw := h.wds (at_ + 1 + i) (by omega)
    have e : (match takeP c (c.T.getD (at_ + 1 + i) 0#64).toNat with | none => none | some (p, z) => scanC at_ n (i + 1) (setC z (at_ + 1 + i) p)) = some d := e
    rw [hw] at e
    have ht : (trk T t (T.getD (at_ + 1 + i) 0#64).toNat).bind (fun t' => trkScan T at_ n (i + 1) t') = some t' := ht
    cases hr : takeP c (T.getD (at_ + 1 + i) 0#64).toNat with
    | none => rw [hr] at e; cases e
    | some w =>
      obtain ⟨q, z⟩ := w
      rw [hr] at e
      have e : scanC at_ n (i + 1) (setC z (at_ + 1 + i) q) = some d := e
      cases hk : trk T t (T.getD (at_ + 1 + i) 0#64).toNat with
      | none => rw [hk] at ht; cases ht
      | some t1 =>
        rw [hk] at ht
        have ht : trkScan T at_ n (i + 1) t1 = some t' := ht
        obtain ⟨rfl, g⟩ := h.take H (hP i hi) hk hr
        have hle : t ≤ t1 := by
          obtain ⟨_, _, _, _, _, o6, _, _⟩ := takeP_ok h.inv.1 h.inv.2.1 (hP i hi) hr
          rw [h.tp, g.tp] at o6; exact o6
        have hin : at_ + 1 + i < z.T.length := by have := g.inv.2.1.2.2; rw [g.tp] at this; omega
        have e0 : BitVec.ofNat 64 (T.getD (at_ + 1 + i) 0#64).toNat = T.getD (at_ + 1 + i) 0#64 := by rw [BitVec.ofNat_toNat, BitVec.setWidth_eq]
        obtain ⟨s1, s2⟩ := setC_ok g.inv.1 g.inv.2.1 (at_ + 1 + i) (T.getD (at_ + 1 + i) 0#64).toNat
        refine Agr.scan H hP n (i + 1) _ (by omega) (by omega) ⟨⟨s1, s2, g.inv.2.2.1, g.inv.2.2.2.1, g.inv.2.2.2.2⟩, g.tp, fun j hj => ?_, g.mv, g.st, g.le, g.full⟩ ht e
        unfold setC
        rw [getD_set hin]
        by_cases ej : at_ + 1 + i = j
        · rw [if_pos ej, e0, ej]
        · rw [if_neg ej]; exact g.wds j hj
theorem Agr.go (H : Heap T l 0 top) (hnx : ∀ a ∈ l, a + szX (T.getD a 0#64) = top ∨ a + szX (T.getD a 0#64) ∈ l) : ∀ (f1 f2 at_ : Nat) (c : Cy) {t t' : Nat} {d : Cy}, (at_ = top ∨ at_ ∈ l) → top < f1 + at_ → c.T.length < f2 + at_ → Agr T l top c t → trkGo T f1 at_ t = some t' → goC f2 at_ c = some d → Agr T l top d t' ∧ d.T.length = c.T.length
  | f1, f2, at_, c, t, t', d, hat, hf1, hf2, h, ht, e => by
    have hle := h.le
    have htc : t ≤ c.T.length := by have := h.inv.2.1.2.2; rw [h.tp] at this; exact this
    by_cases hlt : at_ < t
    · have hal : at_ ∈ l := by
        rcases hat with h1 | h1
        · omega
        · exact h1
      obtain ⟨g1, rfl⟩ : ∃ g, f1 = g + 1 := ⟨f1 - 1, by omega⟩
      obtain ⟨g2, rfl⟩ : ∃ g, f2 = g + 1 := ⟨f2 - 1, by omega⟩
      have hg := (H.good at_ hal).2.2
      have hsz := size_pos hg
      have hfull := h.full at_ hal hlt
      have hw := h.wds at_ hlt
      have ht : (if at_ < t then (trkScan T at_ (P0 (T.getD at_ 0#64)) 0 t).bind (fun t' => trkGo T g1 (at_ + szX (T.getD at_ 0#64)) t') else some t) = some t' := ht
      rw [if_pos hlt] at ht
      have e : (if at_ < c.top then (match scanC at_ (P0 (c.T.getD at_ 0#64)) 0 c with | none => none | some z => goC g2 (at_ + szX (z.T.getD at_ 0#64)) z) else some c) = some d := e
      rw [if_pos (by rw [h.tp]; exact hlt), hw] at e
      cases hr : scanC at_ (P0 (T.getD at_ 0#64)) 0 c with
      | none => rw [hr] at e; cases e
      | some z =>
        rw [hr] at e
        have e : goC g2 (at_ + szX (z.T.getD at_ 0#64)) z = some d := e
        cases hk : trkScan T at_ (P0 (T.getD at_ 0#64)) 0 t with
        | none => rw [hk] at ht; cases ht
        | some t1 =>
          rw [hk] at ht
          have ht : trkGo T g1 (at_ + szX (T.getD at_ 0#64)) t1 = some t' := ht
          have hP := head_ptrs hg
          have g := Agr.scan H (H.ptr at_ hal) (P0 (T.getD at_ 0#64)) 0 c (by omega) (by omega) h hk hr
          have hlen := scan_len H (P := P0 (T.getD at_ 0#64)) (P0 (T.getD at_ 0#64)) 0 c h.inv (fun k _ hk => by rw [h.wds (at_ + 1 + k) (by omega)]; exact H.ptr at_ hal k hk) (by omega) (by rw [h.tp]; omega) hr
          have htt : t ≤ t1 := by have := hlen.2; rw [h.tp, g.tp] at this; exact this
          have hz : z.T.getD at_ 0#64 = T.getD at_ 0#64 := g.wds at_ (by omega)
          rw [hz] at e
          obtain ⟨r1, r2⟩ := Agr.go H hnx g1 g2 _ z (hnx at_ hal) (by omega) (by rw [hlen.1]; omega) g ht e
          exact ⟨r1, r2.trans hlen.1⟩
    · have ht : t = t' := by
        cases f1 with
        | zero => injection ht
        | succ g1 =>
          have ht : (if at_ < t then _ else some t) = some t' := ht
          rw [if_neg hlt] at ht
          injection ht
      have e : c = d := by
        cases f2 with
        | zero => injection e
        | succ g2 =>
          have e : (if at_ < c.top then _ else some c) = some d := e
          rw [if_neg (by rw [h.tp]; exact hlt)] at e
          injection e
      subst ht
      subst e
      exact ⟨h, rfl⟩
theorem Agr.roots (H : Heap T l 0 top) : ∀ (qs : List Nat) (c : Cy) {t t' : Nat} {qs' : List Nat} {d : Cy}, (∀ q ∈ qs, q = 0 ∨ (1 ≤ q ∧ q - 1 ∈ l)) → Agr T l top c t → trkRoots T qs t = some t' → rootsC qs c = some (qs', d) → qs' = qs ∧ Agr T l top d t' ∧ d.T.length = c.T.length
  | [], c, t, t', qs', d, _, h, ht, e => by
    have e : some (([] : List Nat), c) = some (qs', d) := e
    injection e with e
    injection e with e1 e2
    subst e1 e2
    have ht : some t = some t' := ht
    injection ht with ht
    subst ht
    exact ⟨rfl, h, rfl⟩
  | q :: qs, c, t, t', qs', d, hq, h, ht, e => by
    have e : (match takeP c q with | none => none | some (q, z) => match rootsC qs z with | none => none | some (qs, e) => some (q :: qs, e)) = some (qs', d) := e
    cases hr : takeP c q with
    | none => rw [hr] at e; cases e
    | some w =>
      obtain ⟨q2, z⟩ := w
      rw [hr] at e
      have e3 : (match rootsC qs z with | none => none | some (qs, e) => some (q2 :: qs, e)) = some (qs', d) := e
      clear e
      have ht : (trk T t q).bind (fun t' => trkRoots T qs t') = some t' := ht
      cases hk : trk T t q with
      | none => rw [hk] at ht; cases ht
      | some t1 =>
        rw [hk] at ht
        have ht3 : trkRoots T qs t1 = some t' := ht
        clear ht
        have hlen := (takeP_ok h.inv.1 h.inv.2.1 (hq q (.head _)) hr).2.2.2.2.1
        obtain ⟨rfl, g⟩ := h.take H (hq q (.head _)) hk hr
        cases hr2 : rootsC qs z with
        | none => rw [hr2] at e3; cases e3
        | some w2 =>
          obtain ⟨q3, z3⟩ := w2
          rw [hr2] at e3
          injection e3 with e3
          injection e3 with e1 e2
          subst e1 e2
          obtain ⟨rfl, g2, g3⟩ := Agr.roots H qs z (fun q h => hq q (.tail _ h)) g ht3 hr2
          exact ⟨rfl, g2, g3.trans hlen⟩
/-- A copy of a copy. -/
theorem copy_again (H : Heap T l 0 top) (hnx : ∀ a ∈ l, a + szX (T.getD a 0#64) = top ∨ a + szX (T.getD a 0#64) ∈ l) (h0 : top = 0 ∨ 0 ∈ l) {m m2 : Nat} (hm : top ≤ m) (hm2 : m2 ≤ 8192) {qs qs' : List Nat} (hq : ∀ q ∈ qs, q = 0 ∨ (1 ≤ q ∧ q - 1 ∈ l)) {t1 : Nat} (h1 : trkRoots T qs 0 = some t1) (h2 : trkGo T (m + 1) 0 t1 = some top) (e : copyC T m2 qs = some (qs', d)) : qs' = qs ∧ d.top = top ∧ d.T.length = m2 ∧ top ≤ m2 ∧ ∀ j, j < top → d.T.getD j 0#64 = T.getD j 0#64 := by
  unfold copyC at e
  cases hr : rootsC qs ⟨T, List.replicate m2 0#64, 0⟩ with
  | none => rw [hr] at e; cases e
  | some w =>
    obtain ⟨q2, c1⟩ := w
    rw [hr] at e
    have e : (goC (m2 + 1) 0 c1).map (fun d => (q2, d)) = some (qs', d) := e
    cases hg : goC (m2 + 1) 0 c1 with
    | none => rw [hg] at e; cases e
    | some d2 =>
      rw [hg] at e
      injection e with e
      injection e with e1 e2
      subst e1 e2
      obtain ⟨rfl, g1, g2⟩ := Agr.roots H qs _ hq (agr_start H hm2) h1 hr
      have hl : c1.T.length = m2 := by rw [g2]; simp
      obtain ⟨r1, r2⟩ := Agr.go H hnx (m + 1) (m2 + 1) 0 c1 (h0.imp Eq.symm id) (by omega) (by omega) g1 h2 hg
      have := r1.inv.2.1.2.2
      rw [r1.tp, r2, hl] at this
      exact ⟨rfl, r1.tp, r2.trans hl, this, r1.wds⟩
end
end Go.Proofs.Ytlibcpboooehlaa
/- A copy is a well space; its roots are known (pure). Conditions: the space is well. -/
namespace Go.Proofs.Ytlibcpboooehlaa
set_option linter.unusedVariables false
set_option linter.unusedSimpArgs false
open Go.RowKit Go.Maps
section
variable {ws T : List (BitVec 64)} {l : List Nat} {b t : Nat} {c d : Cy} {Pl : List Nat}
theorem posL_app : ∀ (x y : List Nat) (p : Nat), posL ws (x ++ y) p = posL ws x p ++ posL ws y (p + sumZ ws x)
  | [], y, p => rfl
  | a :: x, y, p => by
    show p :: posL ws (x ++ y) _ = p :: (posL ws x _ ++ _)
    rw [posL_app x y]
    congr 3
    show _ = p + (szX _ + sumZ ws x)
    omega
/-- Where objects went; all that were taken. -/
structure PlI (ws : List (BitVec 64)) (l : List Nat) (c : Cy) (all : List Nat) : Prop where
  sum : sumZ ws all = c.top
  sub : ∀ a ∈ all, a ∈ l
  went : ∀ a ∈ l, fM (c.F.getD a 0#64) = true → (fT (c.F.getD a 0#64)).toNat ∈ posL ws all 0
def OkQ (Pl : List Nat) (q : Nat) : Prop := q = 0 ∨ (1 ≤ q ∧ q - 1 ∈ Pl)
theorem OkQ.more {x y : List Nat} {q : Nat} (h : OkQ (posL ws x 0) q) : OkQ (posL ws (x ++ y) 0) q := h.imp id fun h => ⟨h.1, by rw [posL_app]; exact List.mem_append.2 (.inl h.2)⟩
theorem take_pl (H : Heap ws l b t) (h : InvC l ws b t c) {all : List Nat} (g : PlI ws l c all) {k q p0 : Nat} {ys : List Nat} (hk : k = 0 ∨ (1 ≤ k ∧ k - 1 ∈ l)) (hc : Chain ws c.T ys p0 c.top) (e : takeP c k = some (q, d)) :
    ∃ ext, PlI ws l d (all ++ ext) ∧ Chain ws d.T (ys ++ ext) p0 d.top ∧ OkQ (posL ws (all ++ ext) 0) q := by
  obtain ⟨o1, o2, o3, o4, o5, o6, k7, o8⟩ := takeP_ok h.1 h.2.1 hk e
  cases k with
  | zero =>
    have e : some (0, c) = some (q, d) := e
    injection e with e
    injection e with e1 e2
    subst e1 e2
    exact ⟨[], by rw [List.append_nil]; exact g, by rw [List.append_nil]; exact hc, .inl rfl⟩
  | succ a =>
    have ha : a ∈ l := by
      rcases hk with hk | ⟨_, hk⟩
      · cases hk
      · simpa using hk
    cases hr : takeC c a with
    | none =>
      have e : (takeC c a).map _ = some (q, d) := e
      rw [hr] at e; cases e
    | some z =>
      obtain ⟨u, d2⟩ := z
      have e : (takeC c a).map _ = some (q, d) := e
      rw [hr] at e
      injection e with e
      injection e with e1 e2
      have e2 : d2 = d := e2
      have e1 : u + 1 = q := e1
      subst e2
      obtain ⟨i1, i2⟩ := takeC_inv H h ha hr
      rcases i2 with ⟨rfl, hm⟩ | ⟨_, hd2, e3, e4, e5⟩
      · have : takeC d2 a = some ((fT (d2.F.getD a 0#64)).toNat, d2) := by unfold takeC; rw [if_pos hm]
        rw [this] at hr
        injection hr with hr
        injection hr with hr
        have hw := g.went a ha hm
        exact ⟨[], by rw [List.append_nil]; exact g, by rw [List.append_nil]; exact hc, .inr ⟨by omega, by rw [List.append_nil, ← e1, Nat.add_sub_cancel, ← hr]; exact hw⟩⟩
      · have hal : a < c.F.length := by have := H.tl; have := (H.good a ha).2.1; rw [h.2.2.1]; omega
        have hF : d2.F = c.F.set a (goneW c.top) := by rw [hd2]; rfl
        clear hd2
        have hs := size_pos (H.good a ha).2.2
        have G := Lib.hid (gone_ok (u := c.top) (by have := i1.2.1.2.1; have := i1.2.1.2.2; omega))
        have hp : posL ws (all ++ [a]) 0 = posL ws all 0 ++ [c.top] := by rw [posL_app, g.sum, Nat.zero_add]; rfl
        refine ⟨[a], ⟨by rw [sum_app, g.sum, e4]; rfl, fun x hx => (List.mem_append.1 hx).elim (g.sub x) (fun h => by rw [List.mem_singleton.1 h]; exact ha), fun x hx hm => ?_⟩, ?_, .inr ⟨by omega, by rw [hp, ← e1, Nat.add_sub_cancel, e3]; simp⟩⟩
        · rw [hF, getD_set hal] at hm ⊢
          rw [hp]
          by_cases ex : a = x
          · rw [if_pos ex, G.out.2.2]; simp
          · rw [if_neg ex] at hm ⊢
            exact List.mem_append.2 (.inl (g.went x hx hm))
        · rw [e4]
          exact (hc.same (fun i _ h2 => k7 i h2)).snoc e5
theorem scan_pl (H : Heap ws l b t) {at_ P p1 : Nat} : ∀ (n i : Nat) (c : Cy) (ys all : List Nat) {d : Cy}, n + i = P → InvC l ws b t c → PlI ws l c all → at_ + 1 + P ≤ p1 → p1 ≤ c.top → PtL l c at_ P i → Chain ws c.T ys p1 c.top → scanC at_ n i c = some d →
    ∃ ext, PlI ws l d (all ++ ext) ∧ Chain ws d.T (ys ++ ext) p1 d.top ∧ (∀ j, j < c.top → ¬ (at_ + 1 + i ≤ j ∧ j < at_ + 1 + P) → d.T.getD j 0#64 = c.T.getD j 0#64) ∧ ∀ k, i ≤ k → k < P → OkQ (posL ws (all ++ ext) 0) (d.T.getD (at_ + 1 + k) 0#64).toNat
  | 0, i, c, ys, all, d, hn, h, g, _, _, _, hc, e => by
    have e : some c = some d := e
    injection e with e
    subst e
    exact ⟨[], by rw [List.append_nil]; exact g, by rw [List.append_nil]; exact hc, fun _ _ _ => rfl, fun k h1 h2 => by omega⟩
  | n + 1, i, c, ys, all, d, hn, h, g, hp1, hpt, hp, hch, e => by
    have hi : i < P := by omega
    have e : (match takeP c (c.T.getD (at_ + 1 + i) 0#64).toNat with | none => none | some (p, z) => scanC at_ n (i + 1) (setC z (at_ + 1 + i) p)) = some d := e
    cases hr : takeP c (c.T.getD (at_ + 1 + i) 0#64).toNat with
    | none => rw [hr] at e; cases e
    | some w =>
      obtain ⟨q, z⟩ := w
      rw [hr] at e
      have e : scanC at_ n (i + 1) (setC z (at_ + 1 + i) q) = some d := e
      obtain ⟨x1, k2, k3, k4⟩ := take_pl H h g (hp i (Nat.le_refl _) hi) hch hr
      obtain ⟨k1, _⟩ := takeP_inv H h (hp i (Nat.le_refl _) hi) hch hr
      obtain ⟨j1, j2, j3, j4, j5, j6, j7, j8, j9⟩ := scan_step h.1 h.2.1 hi (by omega) hp hr
      have hin : at_ + 1 + i < z.T.length := by have := h.2.1.2.2; omega
      have hset : Chain ws (setC z (at_ + 1 + i) q).T (ys ++ x1) p1 (setC z (at_ + 1 + i) q).top := by
        refine k3.same (fun j h1 _ => ?_)
        unfold setC
        rw [getD_set hin, if_neg (by omega)]
      have hqt : q ≤ z.top ∧ z.top ≤ 8192 := by
        obtain ⟨_, o2, o3, _⟩ := takeP_ok h.1 h.2.1 (hp i (Nat.le_refl _) hi) hr
        exact ⟨o3, by have := o2.2.1; have := o2.2.2; omega⟩
      obtain ⟨x2, m1, m2, m5, m6⟩ := scan_pl H n (i + 1) (setC z (at_ + 1 + i) q) (ys ++ x1) (all ++ x1) (by omega) ⟨j1, j2, k1.2.2.1, k1.2.2.2.1, k1.2.2.2.2⟩ ⟨k2.sum, k2.sub, k2.went⟩ hp1 (show p1 ≤ z.top by omega) j3 hset e
      have ht : (setC z (at_ + 1 + i) q).top = z.top := rfl
      rw [ht] at m5
      refine ⟨x1 ++ x2, by rw [← List.append_assoc]; exact m1, by rw [← List.append_assoc]; exact m2, fun j hj hne => ?_, fun k h1 h2 => ?_⟩
      · rw [m5 j (by omega) (by omega)]
        exact j9 j hj (by omega)
      · rw [← List.append_assoc]
        by_cases hk : k = i
        · subst hk
          have hw : d.T.getD (at_ + 1 + k) 0#64 = BitVec.ofNat 64 q := by
            rw [m5 (at_ + 1 + k) (by omega) (by omega)]
            unfold setC
            rw [getD_set hin, if_pos rfl]
          rw [hw, ofNat_nat (by omega)]
          exact k4.more
        · exact m6 k (by omega) h2
/-- Objects of the copy. -/
def Good (ws T : List (BitVec 64)) (Pl : List Nat) : List Nat → Nat → Nat → Prop
  | [], p, q => p = q
  | a :: r, p, q => (∀ i, i < szX (ws.getD a 0#64) → (i = 0 ∨ P0 (ws.getD a 0#64) < i) → T.getD (p + i) 0#64 = ws.getD (a + i) 0#64) ∧ (∀ k, k < P0 (ws.getD a 0#64) → OkQ Pl (T.getD (p + 1 + k) 0#64).toNat) ∧ Good ws T Pl r (p + szX (ws.getD a 0#64)) q
theorem go_pl (H : Heap ws l b t) : ∀ (f at_ : Nat) (c : Cy) (ys all : List Nat) {d : Cy}, InvC l ws b t c → PlI ws l c all → (∀ a ∈ ys, a ∈ l) → Chain ws c.T ys at_ c.top → c.T.length < f + at_ → goC f at_ c = some d →
    (∀ j, j < at_ → d.T.getD j 0#64 = c.T.getD j 0#64) ∧ ∃ ext, PlI ws l d (all ++ ext) ∧ Good ws d.T (posL ws (all ++ ext) 0) (ys ++ ext) at_ d.top
  | 0, at_, c, ys, all, d, h, g, ha, hc, hf, e => by
    have := hc.le
    have := h.2.1.2.2
    omega
  | f + 1, at_, c, ys, all, d, h, g, ha, hc, hf, e => by
    by_cases hlt : at_ < c.top
    · have hc0 := hc
      obtain ⟨a, ys2, rfl, n1, n2, n3, n4, n5, n6, n7, n8⟩ := next_obj H h hc ha hlt
      have e : (if at_ < c.top then (match scanC at_ (P0 (c.T.getD at_ 0#64)) 0 c with | none => none | some z => goC f (at_ + szX (z.T.getD at_ 0#64)) z) else some c) = some d := e
      rw [if_pos hlt] at e
      cases hr : scanC at_ (P0 (c.T.getD at_ 0#64)) 0 c with
      | none => rw [hr] at e; cases e
      | some z =>
        rw [hr] at e
        have e : goC f (at_ + szX (z.T.getD at_ 0#64)) z = some d := e
        obtain ⟨x1, m1, m2, m5, m6⟩ := scan_pl H (P0 (c.T.getD at_ 0#64)) 0 c ys2 all (by omega) h g n5 n6 n4 n7 hr
        obtain ⟨i1, _, _, i5, _, _⟩ := scanC_inv H (P0 (c.T.getD at_ 0#64)) 0 c ys2 (by omega) h n5 n6 n4 n7 (fun a h => ha a (.tail _ h)) hr
        have hza : z.T.getD at_ 0#64 = c.T.getD at_ 0#64 := m5 at_ hlt (by omega)
        rw [hza] at e
        obtain ⟨g2, x2, g3, g4⟩ := go_pl H f _ z (ys2 ++ x1) (all ++ x1) i1 m1 (fun a h => (List.mem_append.1 h).elim (fun h => ha a (.tail _ h)) (fun h => m1.sub a (List.mem_append.2 (.inr h)))) m2 (by omega) e
        refine ⟨fun j hj => by rw [g2 j (by omega), m5 j (by omega) (by omega)], x1 ++ x2, by rw [← List.append_assoc]; exact g3, ?_⟩
        have hsz : szX (c.T.getD at_ 0#64) = szX (ws.getD a 0#64) := by rw [n2]
        have hPp : P0 (c.T.getD at_ 0#64) = P0 (ws.getD a 0#64) := by rw [n2]
        rw [← List.append_assoc]
        refine ⟨fun i hi hcase => ?_, fun k hk => ?_, ?_⟩
        · have h1 : c.T.getD (at_ + i) 0#64 = ws.getD (a + i) 0#64 := hc0.1 i hi
          rw [g2 (at_ + i) (by omega), m5 (at_ + i) (by omega) (by omega), h1]
        · rw [g2 (at_ + 1 + k) (by omega)]
          exact (m6 k (Nat.zero_le _) (by omega)).more
        · rw [← hsz]
          have g4' := g4
          rw [List.append_assoc ys2] at g4'
          exact g4'
    · have e : (if at_ < c.top then _ else some c) = some d := e
      rw [if_neg hlt] at e
      injection e with e
      subst e
      have hle := hc.le
      obtain rfl : ys = [] := by
        cases ys with
        | nil => rfl
        | cons a ys => have := hc.sum; have hs := size_pos (H.good a (ha a (.head _))).2.2; have : at_ + (szX (ws.getD a 0#64) + sumZ ws ys) = c.top := this; omega
      exact ⟨fun _ _ => rfl, [], by rw [List.append_nil]; exact g, show at_ = c.top by omega⟩
theorem roots_pl (H : Heap ws l b t) : ∀ (ps : List Nat) (c : Cy) (ys all : List Nat) (p0 : Nat) {qs : List Nat} {d : Cy}, (∀ p ∈ ps, p = 0 ∨ (1 ≤ p ∧ p - 1 ∈ l)) → InvC l ws b t c → PlI ws l c all → Chain ws c.T ys p0 c.top → rootsC ps c = some (qs, d) →
    InvC l ws b t d ∧ d.T.length = c.T.length ∧ ∃ ext, PlI ws l d (all ++ ext) ∧ Chain ws d.T (ys ++ ext) p0 d.top ∧ ∀ q ∈ qs, OkQ (posL ws (all ++ ext) 0) q
  | [], c, ys, all, p0, qs, d, _, h, g, hc, e => by
    have e : some (([] : List Nat), c) = some (qs, d) := e
    injection e with e
    injection e with e1 e2
    subst e1 e2
    exact ⟨h, rfl, [], by rw [List.append_nil]; exact g, by rw [List.append_nil]; exact hc, fun _ h => by cases h⟩
  | p :: ps, c, ys, all, p0, qs, d, hp, h, g, hc, e => by
    have e : (match takeP c p with | none => none | some (q, z) => match rootsC ps z with | none => none | some (qs, e) => some (q :: qs, e)) = some (qs, d) := e
    cases hr : takeP c p with
    | none => rw [hr] at e; cases e
    | some w =>
      obtain ⟨q, z⟩ := w
      rw [hr] at e
      obtain ⟨x1, k2, k3, k4⟩ := take_pl H h g (hp p (.head _)) hc hr
      obtain ⟨k1, _⟩ := takeP_inv H h (hp p (.head _)) hc hr
      have hlen := (takeP_ok h.1 h.2.1 (hp p (.head _)) hr).2.2.2.2.1
      have e : (match rootsC ps z with | none => none | some (qs, e) => some (q :: qs, e)) = some (qs, d) := e
      cases hr2 : rootsC ps z with
      | none => rw [hr2] at e; cases e
      | some w2 =>
        obtain ⟨q2, z2⟩ := w2
        rw [hr2] at e
        injection e with e
        injection e with e1 e2
        subst e1 e2
        obtain ⟨m0, m9, x2, m1, m2, m3⟩ := roots_pl H ps z (ys ++ x1) (all ++ x1) p0 (fun p h => hp p (.tail _ h)) k1 k2 k3 hr2
        refine ⟨m0, m9.trans hlen, x1 ++ x2, by rw [← List.append_assoc]; exact m1, by rw [← List.append_assoc]; exact m2, fun x hx => ?_⟩
        rw [← List.append_assoc]
        rcases List.mem_cons.1 hx with rfl | hx
        · exact k4.more
        · exact m3 x hx
theorem copy_pl (H : Heap ws l b t) {m : Nat} (hm : m ≤ 8192) {ps qs : List Nat} (hps : ∀ p ∈ ps, p = 0 ∨ (1 ≤ p ∧ p - 1 ∈ l)) (e : copyC ws m ps = some (qs, d)) :
    ∃ zs, (∀ a ∈ zs, a ∈ l) ∧ Good ws d.T (posL ws zs 0) zs 0 d.top ∧ ∀ q ∈ qs, OkQ (posL ws zs 0) q := by
  unfold copyC at e
  cases hr : rootsC ps ⟨ws, List.replicate m 0#64, 0⟩ with
  | none => rw [hr] at e; cases e
  | some w =>
    obtain ⟨q2, c1⟩ := w
    rw [hr] at e
    have e : (goC (m + 1) 0 c1).map (fun d => (q2, d)) = some (qs, d) := e
    cases hg : goC (m + 1) 0 c1 with
    | none => rw [hg] at e; cases e
    | some d2 =>
      rw [hg] at e
      injection e with e
      injection e with e1 e2
      subst e1 e2
      have h0 : PlI ws l ⟨ws, List.replicate m 0#64, 0⟩ [] := ⟨rfl, fun _ h => (by cases h), fun a ha hm => by
        have : fM (ws.getD a 0#64) = false := (goodX_out (H.good a ha).2.2).2.1
        have hm : fM (ws.getD a 0#64) = true := hm
        rw [this] at hm; cases hm⟩
      obtain ⟨m0, m9, x, m1, m2, m3⟩ := roots_pl H ps _ [] [] 0 hps (inv_start H hm) h0 (rfl : Chain ws _ [] 0 0) hr
      have hl : c1.T.length = m := by rw [m9]; simp
      rw [List.nil_append] at m1 m2 m3
      obtain ⟨_, x2, g3, g4⟩ := go_pl H (m + 1) 0 c1 x x m0 m1 m1.sub m2 (by omega) hg
      exact ⟨x ++ x2, g3.sub, g4, fun q hq => (m3 q hq).more⟩
end
end Go.Proofs.Ytlibcpboooehlaa
/- A copy of a copy: all that the law CopyAgain asks, in words (pure). Conditions: the space is well. -/
namespace Go.Proofs.Ytlibcpboooehlaa
set_option linter.unusedVariables false
set_option linter.unusedSimpArgs false
open Go.RowKit Go.Maps
section
variable {ws T : List (BitVec 64)} {l : List Nat} {b t : Nat} {c d : Cy} {Pl : List Nat}
theorem good_obj {top : Nat} (hz : ∀ a ∈ l, goodX (ws.getD a 0#64) 1000000 = true) : ∀ (n : Nat) (r : List Nat) (p : Nat), (∀ a ∈ r, a ∈ l) → Good ws T Pl r p top → p + sumZ ws r = top → top < p + n → objF T top n p = some (posL ws r p)
  | 0, r, p, _, h, hs, hn => by omega
  | n + 1, [], p, _, h, hs, _ => by
    have h : p = top := h
    show (if p < top then _ else _) = _
    rw [if_neg (by omega)]
    rfl
  | n + 1, a :: r, p, hr, h, hs, hn => by
    obtain ⟨h1, h2, h3⟩ := h
    have hg := hz a (hr a (.head _))
    have hsz := size_pos hg
    have hs : p + (szX (ws.getD a 0#64) + sumZ ws r) = top := hs
    have e1 := good_obj hz n r (p + szX (ws.getD a 0#64)) (fun x hx => hr x (.tail _ hx)) h3 (by omega) (by omega)
    have hw : T.getD p 0#64 = ws.getD a 0#64 := h1 0 (by omega) (.inl rfl)
    show (if p < top then (if goodX (T.getD p 0#64) (top - p) = true then (objF T top n (p + szX (T.getD p 0#64))).map (p :: ·) else none) else some []) = _
    have hgT : goodX (T.getD p 0#64) (top - p) = true := by
      rw [hw]
      obtain ⟨g1, g2, g3⟩ := goodX_out hg
      unfold goodX
      rw [g1, g2]
      exact decide_eq_true (by omega)
    rw [if_pos (by omega), if_pos hgT, hw, e1]
    rfl
theorem Good.sum : ∀ {r : List Nat} {p q : Nat}, Good ws T Pl r p q → p + sumZ ws r = q
  | [], _, _, h => h
  | a :: r, p, q, h => by have := Good.sum (r := r) h.2.2; show p + (szX _ + sumZ ws r) = q; omega
theorem good_at : ∀ {r : List Nat} {p q : Nat}, Good ws T Pl r p q → ∀ x ∈ posL ws r p, ∃ a ∈ r, (∀ i, i < szX (ws.getD a 0#64) → (i = 0 ∨ P0 (ws.getD a 0#64) < i) → T.getD (x + i) 0#64 = ws.getD (a + i) 0#64) ∧ (∀ k, k < P0 (ws.getD a 0#64) → OkQ Pl (T.getD (x + 1 + k) 0#64).toNat) ∧ (x + szX (ws.getD a 0#64) = q ∨ x + szX (ws.getD a 0#64) ∈ posL ws r p)
  | [], _, _, _, x, hx => by cases hx
  | a :: r, p, q, h, x, hx => by
    rcases List.mem_cons.1 hx with rfl | hx
    · refine ⟨a, .head _, h.1, h.2.1, ?_⟩
      cases r with
      | nil => exact .inl h.2.2
      | cons a2 r2 => exact .inr (.tail _ (.head _))
    · obtain ⟨a', h1, h2, h3, h4⟩ := good_at h.2.2 x hx
      exact ⟨a', .tail _ h1, h2, h3, h4.imp id (fun h => .tail _ h)⟩
theorem pad_same {x a : Nat} (hw : ∀ i, i < szX (ws.getD a 0#64) → (i = 0 ∨ P0 (ws.getD a 0#64) < i) → T.getD (x + i) 0#64 = ws.getD (a + i) 0#64) (hs : 1 + P0 (ws.getD a 0#64) ≤ szX (ws.getD a 0#64)) : padN T x = padN ws a := by
  have h0 : T.getD x 0#64 = ws.getD a 0#64 := hw 0 (by omega) (.inl rfl)
  unfold padN
  rw [h0]
  obtain ⟨P, hP⟩ : ∃ P, P = P0 (ws.getD a 0#64) := ⟨_, rfl⟩
  obtain ⟨N, hN⟩ : ∃ P, P = B0 (ws.getD a 0#64) := ⟨_, rfl⟩
  obtain ⟨z, hz⟩ : ∃ P, P = szX (ws.getD a 0#64) := ⟨_, rfl⟩
  rw [← hP, ← hz] at hw
  rw [← hP, ← hz] at hs
  rw [← hP, ← hN, ← hz]
  clear hP hN hz h0
  have e : 8 * (x + z) - (8 * (x + 1 + P) + N) = 8 * (a + z) - (8 * (a + 1 + P) + N) := by omega
  rw [e]
  unfold padB
  congr 1
  unfold bytesM
  refine List.map_congr_left fun i hi => ?_
  have hi := List.mem_range.1 hi
  unfold byteAt
  have hq : (N + i) / 8 < z - 1 - P := by omega
  rw [show (8 * (x + 1 + P) + N + i) / 8 = x + (1 + P + (N + i) / 8) from by omega, show (8 * (a + 1 + P) + N + i) / 8 = a + (1 + P + (N + i) / 8) from by omega, hw (1 + P + (N + i) / 8) (by omega) (.inr (by omega)), show (8 * (x + 1 + P) + N + i) % 8 = (8 * (a + 1 + P) + N + i) % 8 from by omega]
/-- What a copy is, and its copies. -/
theorem again_all (H : Heap ws l b t) (hwell : l.all (wellN ws l) = true) {m : Nat} (hm : m ≤ 8192) {ps qs : List Nat} (hps : ∀ p ∈ ps, p = 0 ∨ (1 ≤ p ∧ p - 1 ∈ l)) (e : copyC ws m ps = some (qs, d)) :
    ∃ l2, objF d.T d.top (d.top + 1) 0 = some l2 ∧ l2.all (wellN d.T l2) = true ∧ (∀ q ∈ qs, q = 0 ∨ (1 ≤ q ∧ q - 1 ∈ l2)) ∧ d.T.length = m ∧ d.top ≤ m ∧ (∀ m2, d.top ≤ m2 → m2 ≤ 8192 → ∃ d2, copyC d.T m2 qs = some (qs, d2) ∧ d2.top = d.top ∧ d2.T.length = m2 ∧ ∀ j, j < d.top → d2.T.getD j 0#64 = d.T.getD j 0#64) ∧ ∀ m2, m2 < d.top → copyC d.T m2 qs = none := by
  obtain ⟨i1, i2, _, t1, k1, k2⟩ := copy_trk H hm hps e
  obtain ⟨zs, g1, g2, g3⟩ := copy_pl H hm hps e
  have htm : d.top ≤ m := by have := i1.2.1.2.2; rw [i2] at this; exact this
  have hz : ∀ a ∈ l, goodX (ws.getD a 0#64) 1000000 = true := fun a ha => by
    have hg := (H.good a ha).2.2
    obtain ⟨g1, g2, g3⟩ := goodX_out hg
    have := H.tl
    have := H.wl
    unfold goodX
    rw [g1, g2]
    exact decide_eq_true (by omega)
  have hs := g2.sum
  have ho := good_obj hz (d.top + 1) zs 0 g1 g2 hs (by omega)
  obtain ⟨l2, hl2⟩ : ∃ l2, l2 = posL ws zs 0 := ⟨_, rfl⟩
  rw [← hl2] at g2 g3 ho
  have hat := good_at g2
  rw [← hl2] at hat
  have hw2 : l2.all (wellN d.T l2) = true := by
    refine List.all_eq_true.2 fun x hx => ?_
    obtain ⟨a, a1, a2, a3, a4⟩ := hat x hx
    have hg := hz a (g1 a a1)
    have hsz := head_ptrs hg
    have h0 : d.T.getD x 0#64 = ws.getD a 0#64 := a2 0 (by omega) (.inl rfl)
    have hwa := List.all_eq_true.1 hwell a (g1 a a1)
    unfold wellN at hwa ⊢
    rw [Bool.and_eq_true] at hwa ⊢
    refine ⟨List.all_eq_true.2 fun k hk => ?_, by rw [pad_same a2 hsz]; exact hwa.2⟩
    rw [h0] at hk
    unfold ptrN
    exact decide_eq_true (a3 k (List.mem_range.1 hk))
  have H2 : Heap d.T l2 0 d.top := heap_of ho hw2 (by omega) (by omega)
  have hnx : ∀ a ∈ l2, a + szX (d.T.getD a 0#64) = d.top ∨ a + szX (d.T.getD a 0#64) ∈ l2 := fun x hx => by
    obtain ⟨a, a1, a2, a3, a4⟩ := hat x hx
    have hsz := head_ptrs (hz a (g1 a a1))
    have h0 : d.T.getD x 0#64 = ws.getD a 0#64 := a2 0 (by omega) (.inl rfl)
    rw [h0]
    exact a4
  have h0 : d.top = 0 ∨ 0 ∈ l2 := by
    cases zs with
    | nil => exact .inl hs.symm
    | cons a r => rw [hl2]; exact .inr (.head _)
  have hcap := sum_obj (d.top + 1) 0 l2 (Nat.zero_le _) ho
  rw [Nat.zero_add] at hcap
  refine ⟨l2, ho, hw2, g3, i2, htm, fun m2 h1 h2 => ?_, fun m2 h1 => ?_⟩
  · obtain ⟨s', c', e1, h3, h4, _, _⟩ := law_end H2 g3 (Nat.le_trans hcap h1) (law_start (m := m2) H2 h2)
    have hr := h3.run.end_ h4
    obtain ⟨r1, r2, r3, _, r5⟩ := copy_again H2 hnx h0 htm h2 g3 k1 k2 hr
    rw [r1] at hr
    exact ⟨s'.c, hr, r2, r3, r5⟩
  · cases hc : copyC d.T m2 qs with
    | none => rfl
    | some z =>
      obtain ⟨q', d'⟩ := z
      obtain ⟨_, _, _, r4, _⟩ := copy_again H2 hnx h0 htm (by omega) g3 k1 k2 hc
      omega
end
end Go.Proofs.Ytlibcpboooehlaa
