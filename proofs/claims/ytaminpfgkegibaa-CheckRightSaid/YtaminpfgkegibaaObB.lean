/- obj's pointer, place, inside, data. Conditions: lengths. -/
import Derived.Test.YtaminpfgkegibaaObA
namespace Go.Proofs.Ytaminpfgkegibaa
set_option linter.unusedVariables false
set_option linter.unusedSimpArgs false
open Go.RowKit
/-- What look answers of a place, as an error. -/
def lkE (ws : List (BitVec 64)) (b t : Nat) (a : Int) : Int := if (b : Int) ≤ a ∧ a < (t : Int) then (if goodX (ws.getD a.toNat 0#64) (t - a.toNat) = true then 0 else 2) else 1
theorem lkE_zero {ws : List (BitVec 64)} {b t : Nat} {a : Int} (h : lkE ws b t a = 0) : ∃ i : Nat, a = (i : Int) ∧ b ≤ i ∧ i < t ∧ goodX (ws.getD i 0#64) (t - i) = true := by
  unfold lkE at h
  by_cases c : (b : Int) ≤ a ∧ a < (t : Int)
  · rw [if_pos c] at h
    by_cases d : goodX (ws.getD a.toNat 0#64) (t - a.toNat) = true
    · exact ⟨a.toNat, by omega, by omega, by omega, d⟩
    · rw [if_neg d] at h; cases h
  · rw [if_neg c] at h; cases h
theorem lkE_good {ws : List (BitVec 64)} {b t i : Nat} (h1 : b ≤ i) (h2 : i < t) (h : goodX (ws.getD i 0#64) (t - i) = true) : lkE ws b t (i : Int) = 0 := by
  unfold lkE
  rw [if_pos (by omega), if_pos (by simpa using h)]
theorem look_err (w : World) (B s g : Nat) (v : Value) (ws : List (BitVec 64)) (b t e : Nat) (p : SpAt w B s g v ws b t e) (hl : ws.length ≤ 100000) (a : Int) (h : lkE ws b t a ≠ 0) :
    Calls Try.prog 96 #[.pointer (some ⟨s, 0, none⟩), .int .i64 a] w (RetP (.tuple #[zH, .int .i64 (lkE ws b t a)]) w) := by
  unfold lkE at h ⊢
  by_cases c : (b : Int) ≤ a ∧ a < (t : Int)
  · rw [if_pos c] at h ⊢
    obtain ⟨i, rfl⟩ : ∃ i : Nat, a = (i : Int) := ⟨a.toNat, by omega⟩
    rw [Int.toNat_natCast] at h ⊢
    by_cases d : goodX (ws.getD i 0#64) (t - i) = true
    · rw [if_pos d] at h; exact absurd rfl h
    · rw [if_neg d]
      exact look_bad w B s g v ws b t e p hl i (by omega) (by omega) (by simpa using d)
  · rw [if_neg c]
    exact look_out w B s g v ws b t e p a (by omega)
theorem lkE_two {ws : List (BitVec 64)} {b t : Nat} {a : Int} : lkE ws b t a = 0 ∨ lkE ws b t a = 1 ∨ lkE ws b t a = 2 := by
  unfold lkE
  split
  · split
    · exact .inl rfl
    · exact .inr (.inr rfl)
  · exact .inr (.inl rfl)
set_option maxHeartbeats 1000000
set_option maxRecDepth 100000
theorem ptr_err (w : World) (B s g : Nat) (v : Value) (ws : List (BitVec 64)) (b t e : Nat) (p : SpAt w B s g v ws b t e) (hl : ws.length ≤ 100000) (a i : Int) (h : lkE ws b t a ≠ 0) :
    Calls Try.prog 103 #[.pointer (some ⟨s, 0, none⟩), .int .i64 a, .int .i64 i] w (RetP (.tuple #[.int .i64 0, .int .i64 (lkE ws b t a)]) w) := by
  have HL := Lib.hid (look_err w B s g v ws b t e p hl a h)
  obtain ⟨E, hE⟩ : ∃ E, E = lkE ws b t a := ⟨_, rfl⟩
  rw [← hE] at HL h ⊢
  unfold zH at HL
  have h1 : (E == 0) = false := by simpa using h
  have h2 : (E != 0) = true := by simpa using h
  clear hE p hl h
  go_enter Try.func103, Try.ntmps103
  go_wp2_with fail
  refine Calls.mono HL.out ?_
  rintro r w2 ⟨rfl, b2⟩
  have HB := Lib.hid b2
  clear b2 HL
  go_wp2_with fail
  go_ret2
  exact ⟨rfl, HB.out.trans ((Gw.alloc w2 _).mono HB.out.size)⟩
theorem ptr_no (w : World) (B s g : Nat) (v : Value) (ws : List (BitVec 64)) (b t e : Nat) (p : SpAt w B s g v ws b t e) (hl : ws.length ≤ 100000) (a : Nat) (i : Int) (h1 : b ≤ a) (h2 : a < t) (hg : goodX (ws.getD a 0#64) (t - a) = true) (hi : i < 0 ∨ (0 ≤ i ∧ (P0 (ws.getD a 0#64) : Int) ≤ i)) :
    Calls Try.prog 103 #[.pointer (some ⟨s, 0, none⟩), .int .i64 a, .int .i64 i] w (RetP (.tuple #[.int .i64 0, .int .i64 1]) w) := by
  have HL := Lib.hid (look_ok w B s g v ws b t e p hl a h1 h2 hg)
  obtain ⟨P, hP⟩ : ∃ P, P = P0 (ws.getD a 0#64) := ⟨_, rfl⟩
  obtain ⟨N, hN⟩ : ∃ P, P = B0 (ws.getD a 0#64) := ⟨_, rfl⟩
  rw [← hP, ← hN] at HL
  rw [← hP] at hi
  clear hP hN p hl h1 h2 hg
  rcases hi with hi | ⟨hi0, hi⟩
  all_goals
    go_enter Try.func103, Try.ntmps103
    go_wp2_with fail
    refine Calls.mono HL.out ?_
    rintro r w2 ⟨rfl, b2⟩
    have HB := Lib.hid b2
    clear b2
    go_wp2_with fail
    go_ret2
    exact ⟨rfl, HB.out.trans ((Gw.alloc w2 _).mono HB.out.size)⟩
theorem ptr_ok (w : World) (B s g : Nat) (v : Value) (ws : List (BitVec 64)) (b t e : Nat) (p : SpAt w B s g v ws b t e) (hl : ws.length ≤ 100000) (a k : Nat) (h1 : b ≤ a) (h2 : a < t) (hg : goodX (ws.getD a 0#64) (t - a) = true) (hk : k < P0 (ws.getD a 0#64)) :
    Calls Try.prog 103 #[.pointer (some ⟨s, 0, none⟩), .int .i64 a, .int .i64 k] w (RetP (.tuple #[.int .i64 ((a + 1 + k : Nat) : Int), .int .i64 0]) w) := by
  have HL := Lib.hid (look_ok w B s g v ws b t e p hl a h1 h2 hg)
  obtain ⟨P, hP⟩ : ∃ P, P = P0 (ws.getD a 0#64) := ⟨_, rfl⟩
  obtain ⟨N, hN⟩ : ∃ P, P = B0 (ws.getD a 0#64) := ⟨_, rfl⟩
  have hb := (head_of hg).2.1
  rw [← hP, ← hN] at HL
  rw [← hP] at hk hb
  have q1 : (a : Int) ≤ 100000 := by have := p.te; have := p.el; omega
  have q2 : (0 : Int) ≤ (a : Int) := by omega
  have q3 : (0 : Int) ≤ (k : Int) := by omega
  have q4 : (k : Int) < (P : Int) := by omega
  have q5 : (P : Int) ≤ 64 := by omega
  rw [show ((a + 1 + k : Nat) : Int) = (a : Int) + 1 + (k : Int) by omega]
  clear hP hN p hl h1 h2 hg hb
  go_enter Try.func103, Try.ntmps103
  go_wp2_with fail
  refine Calls.mono HL.out ?_
  rintro r w2 ⟨rfl, b2⟩
  have HB := Lib.hid b2
  clear b2
  go_wp2_with fail
  go_ret2
  exact ⟨rfl, HB.out.trans ((Gw.alloc w2 _).mono HB.out.size)⟩
theorem place_hi (w : World) (x : BitVec 64) (h : 8192 < U64 x) : Calls Try.prog 107 #[.int .u64 (U64 x)] w (RetP (.tuple #[.int .i64 0, .bool false]) w) := by
  go_enter Try.func107, Try.ntmps107
  go_wp2
  go_ret2
  exact ⟨rfl, (by repeat (first | with_reducible assumption | with_reducible exact Below.refl _ _ | with_reducible apply bdN | with_reducible apply Below.drew | with_reducible refine Below.alloc ?_ (by simp) _ | with_reducible refine Below.setCell ?_ (by simp) _))⟩
theorem place_lo (w : World) (n : Nat) (h : (n : Int) ≤ 8192) : Calls Try.prog 107 #[.int .u64 (n : Int)] w (RetP (.tuple #[.int .i64 ((n : Int) - 1), .bool true]) w) := by
  go_enter Try.func107, Try.ntmps107
  go_wp2
  go_ret2
  exact ⟨rfl, (by repeat (first | with_reducible assumption | with_reducible exact Below.refl _ _ | with_reducible apply bdN | with_reducible apply Below.drew | with_reducible refine Below.alloc ?_ (by simp) _ | with_reducible refine Below.setCell ?_ (by simp) _))⟩
def insB (b t : Nat) (a : Int) : Bool := decide ((b : Int) ≤ a ∧ a < (t : Int))
theorem inside_c (w : World) (B s g : Nat) (v : Value) (ws : List (BitVec 64)) (b t e : Nat) (p : SpAt w B s g v ws b t e) (a : Int) :
    Calls Try.prog 104 #[.pointer (some ⟨s, 0, none⟩), .int .i64 a] w (RetP (.bool (insB b t a)) w) := by
  obtain ⟨c0, c1, c2, c3⟩ := p.four
  unfold insB
  clear p
  by_cases h1 : (b : Int) ≤ a
  · by_cases h2 : a < (t : Int)
    · rw [show decide ((b : Int) ≤ a ∧ a < (t : Int)) = true by simp [h1, h2]]
      go_enter Try.func104, Try.ntmps104
      go_wp2
      go_ret
      exact ⟨by first | rfl | simp, (by repeat (first | with_reducible assumption | with_reducible exact Below.refl _ _ | with_reducible apply bdN | with_reducible apply Below.drew | with_reducible refine Below.alloc ?_ (by simp) _ | with_reducible refine Below.setCell ?_ (by simp) _))⟩
    · rw [show decide ((b : Int) ≤ a ∧ a < (t : Int)) = false by simp [h2]]
      go_enter Try.func104, Try.ntmps104
      go_wp2
      go_ret
      exact ⟨by first | rfl | simp, (by repeat (first | with_reducible assumption | with_reducible exact Below.refl _ _ | with_reducible apply bdN | with_reducible apply Below.drew | with_reducible refine Below.alloc ?_ (by simp) _ | with_reducible refine Below.setCell ?_ (by simp) _))⟩
  · rw [show decide ((b : Int) ≤ a ∧ a < (t : Int)) = false by simp [h1]]
    go_enter Try.func104, Try.ntmps104
    go_wp2
    go_ret
    exact ⟨by first | rfl | simp, (by repeat (first | with_reducible assumption | with_reducible exact Below.refl _ _ | with_reducible apply bdN | with_reducible apply Below.drew | with_reducible refine Below.alloc ?_ (by simp) _ | with_reducible refine Below.setCell ?_ (by simp) _))⟩
theorem data_err (w : World) (B s g : Nat) (v : Value) (ws : List (BitVec 64)) (b t e : Nat) (p : SpAt w B s g v ws b t e) (hl : ws.length ≤ 100000) (a i n : Int) (h : lkE ws b t a ≠ 0) :
    Calls Try.prog 105 #[.pointer (some ⟨s, 0, none⟩), .int .i64 a, .int .i64 i, .int .i64 n] w (RetP (.tuple #[.int .i64 0, .int .i64 (lkE ws b t a)]) w) := by
  have HL := Lib.hid (look_err w B s g v ws b t e p hl a h)
  obtain ⟨E, hE⟩ : ∃ E, E = lkE ws b t a := ⟨_, rfl⟩
  rw [← hE] at HL h ⊢
  unfold zH at HL
  have h1 : (E == 0) = false := by simpa using h
  have h2 : (E != 0) = true := by simpa using h
  clear hE p hl h
  go_enter Try.func105, Try.ntmps105
  go_wp2_with fail
  refine Calls.mono HL.out ?_
  rintro r w2 ⟨rfl, b2⟩
  have HB := Lib.hid b2
  clear b2 HL
  go_wp2_with fail
  go_ret2
  exact ⟨rfl, HB.out.trans ((Gw.alloc w2 _).mono HB.out.size)⟩
/-- Bytes that are not an object's. -/
def noD (N : Nat) (i n : Int) : Prop := i < 0 ∨ (0 ≤ i ∧ n < 0) ∨ (0 ≤ i ∧ 0 ≤ n ∧ (N : Int) < i) ∨ (0 ≤ i ∧ 0 ≤ n ∧ i ≤ (N : Int) ∧ (N : Int) - i < n)
theorem data_no (w : World) (B s g : Nat) (v : Value) (ws : List (BitVec 64)) (b t e : Nat) (p : SpAt w B s g v ws b t e) (hl : ws.length ≤ 100000) (a : Nat) (i n : Int) (h1 : b ≤ a) (h2 : a < t) (hg : goodX (ws.getD a 0#64) (t - a) = true) (hi : noD (B0 (ws.getD a 0#64)) i n) :
    Calls Try.prog 105 #[.pointer (some ⟨s, 0, none⟩), .int .i64 a, .int .i64 i, .int .i64 n] w (RetP (.tuple #[.int .i64 0, .int .i64 1]) w) := by
  have HL := Lib.hid (look_ok w B s g v ws b t e p hl a h1 h2 hg)
  obtain ⟨P, hP⟩ : ∃ P, P = P0 (ws.getD a 0#64) := ⟨_, rfl⟩
  obtain ⟨N, hN⟩ : ∃ P, P = B0 (ws.getD a 0#64) := ⟨_, rfl⟩
  have hb := (head_of hg).2.2.1
  rw [← hP, ← hN] at HL
  rw [← hN] at hi hb
  have q5 : (N : Int) ≤ 1024 := by omega
  clear hP hN p hl h1 h2 hg hb
  rcases hi with hi | ⟨hi, hi2⟩ | ⟨hi, hi2, hi3⟩ | ⟨hi, hi2, hi3, hi4⟩
  all_goals
    go_enter Try.func105, Try.ntmps105
    go_wp2_with fail
    refine Calls.mono HL.out ?_
    rintro r w2 ⟨rfl, b2⟩
    have HB := Lib.hid b2
    clear b2
    go_wp2_with fail
    go_ret2
    exact ⟨rfl, HB.out.trans ((Gw.alloc w2 _).mono HB.out.size)⟩
theorem data_ok (w : World) (B s g : Nat) (v : Value) (ws : List (BitVec 64)) (b t e : Nat) (p : SpAt w B s g v ws b t e) (hl : ws.length ≤ 100000) (a i n : Nat) (h1 : b ≤ a) (h2 : a < t) (hg : goodX (ws.getD a 0#64) (t - a) = true) (hi : i + n ≤ B0 (ws.getD a 0#64)) :
    Calls Try.prog 105 #[.pointer (some ⟨s, 0, none⟩), .int .i64 a, .int .i64 i, .int .i64 n] w (RetP (.tuple #[.int .i64 ((8 * (a + 1 + P0 (ws.getD a 0#64)) + i : Nat) : Int), .int .i64 0]) w) := by
  have HL := Lib.hid (look_ok w B s g v ws b t e p hl a h1 h2 hg)
  obtain ⟨P, hP⟩ : ∃ P, P = P0 (ws.getD a 0#64) := ⟨_, rfl⟩
  obtain ⟨N, hN⟩ : ∃ P, P = B0 (ws.getD a 0#64) := ⟨_, rfl⟩
  obtain ⟨_, hb1, hb2, _⟩ := head_of hg
  rw [← hP, ← hN] at HL
  rw [← hN] at hi hb2
  rw [← hP] at hb1 ⊢
  have q1 : (a : Int) ≤ 100000 := by have := p.te; have := p.el; omega
  have q2 : (0 : Int) ≤ (a : Int) := by omega
  have q3 : (0 : Int) ≤ (i : Int) := by omega
  have q4 : (0 : Int) ≤ (n : Int) := by omega
  have q5 : (N : Int) ≤ 1024 := by omega
  have q6 : (P : Int) ≤ 64 := by omega
  have q7 : (i : Int) ≤ (N : Int) := by omega
  have q8 : (n : Int) ≤ (N : Int) - (i : Int) := by omega
  have e0 : ((8 * (a + 1 + P) + i : Nat) : Int) = ((a : Int) + 1 + (P : Int)) * 8 + (i : Int) := by omega
  rw [e0]
  clear hP hN p hl h1 h2 hg hb1 hb2 hi e0
  go_enter Try.func105, Try.ntmps105
  go_wp2_with fail
  refine Calls.mono HL.out ?_
  rintro r w2 ⟨rfl, b2⟩
  have HB := Lib.hid b2
  clear b2
  go_wp2_with fail
  go_ret2
  exact ⟨rfl, HB.out.trans ((Gw.alloc w2 _).mono HB.out.size)⟩
end Go.Proofs.Ytaminpfgkegibaa
