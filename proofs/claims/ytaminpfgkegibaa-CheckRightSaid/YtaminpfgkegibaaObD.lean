/- obj.SetPtr, Read, Write. Conditions: lengths. -/
import Derived.Test.YtaminpfgkegibaaObC
import Derived.Test.YtaminpfgkegibaaMmG
namespace Go.Proofs.Ytaminpfgkegibaa
set_option linter.unusedVariables false
set_option linter.unusedSimpArgs false
open Go.RowKit
/-- Nothing of the old world but the row of words has changed. -/
def SetP (w : World) (B s g : Nat) (v : Value) (ws : List (BitVec 64)) (b t e : Nat) (r : Ending) (w' : World) : Prop := r = .returned (.int .i64 0) ∧ SpAt w' B s g v ws b t e ∧ Two w w' s v.ownBlock ∧ Below B w w'
set_option maxHeartbeats 1000000
set_option maxRecDepth 100000
theorem setptr_err (w : World) (B s g : Nat) (v : Value) (ws : List (BitVec 64)) (b t e : Nat) (p : SpAt w B s g v ws b t e) (hl : ws.length ≤ 100000) (a i to_ : Int) (h : lkE ws b t a ≠ 0) :
    Calls Try.prog 91 #[.pointer (some ⟨s, 0, none⟩), .int .i64 a, .int .i64 i, .int .i64 to_] w (RetP (.int .i64 (lkE ws b t a)) w) := by
  have HL := Lib.hid (ptr_err w B s g v ws b t e p hl a i h)
  obtain ⟨E, hE⟩ : ∃ E, E = lkE ws b t a := ⟨_, rfl⟩
  rw [← hE] at HL h ⊢
  have h1 : (E == 0) = false := by simpa using h
  have h2 : (E != 0) = true := by simpa using h
  clear hE p hl h
  go_enter Try.func91, Try.ntmps91
  go_wp2_with fail
  refine Calls.mono HL.out ?_
  rintro r w2 ⟨rfl, b2⟩
  have HB := Lib.hid b2
  clear b2 HL
  go_wp2_with fail
  go_ret
  exact ⟨rfl, HB.out⟩
theorem setptr_no (w : World) (B s g : Nat) (v : Value) (ws : List (BitVec 64)) (b t e : Nat) (p : SpAt w B s g v ws b t e) (hl : ws.length ≤ 100000) (a : Nat) (i to_ : Int) (h1 : b ≤ a) (h2 : a < t) (hg : goodX (ws.getD a 0#64) (t - a) = true) (hi : i < 0 ∨ (0 ≤ i ∧ (P0 (ws.getD a 0#64) : Int) ≤ i)) :
    Calls Try.prog 91 #[.pointer (some ⟨s, 0, none⟩), .int .i64 a, .int .i64 i, .int .i64 to_] w (RetP (.int .i64 1) w) := by
  have HL := Lib.hid (ptr_no w B s g v ws b t e p hl a i h1 h2 hg hi)
  clear p hl h1 h2 hg hi
  go_enter Try.func91, Try.ntmps91
  go_wp2_with fail
  refine Calls.mono HL.out ?_
  rintro r w2 ⟨rfl, b2⟩
  have HB := Lib.hid b2
  clear b2 HL
  go_wp2_with fail
  go_ret
  exact ⟨rfl, HB.out⟩
theorem setptr_bad (w : World) (B s g : Nat) (v : Value) (ws : List (BitVec 64)) (b t e : Nat) (p : SpAt w B s g v ws b t e) (hl : ws.length ≤ 100000) (a k : Nat) (to_ : Int) (h1 : b ≤ a) (h2 : a < t) (hg : goodX (ws.getD a 0#64) (t - a) = true) (hk : k < P0 (ws.getD a 0#64)) (hto : to_ ≠ -1) (hin : insB b t to_ = false) :
    Calls Try.prog 91 #[.pointer (some ⟨s, 0, none⟩), .int .i64 a, .int .i64 k, .int .i64 to_] w (RetP (.int .i64 1) w) := by
  have HL := Lib.hid (ptr_ok w B s g v ws b t e p hl a k h1 h2 hg hk)
  obtain ⟨J, hJ⟩ : ∃ J, J = a + 1 + k := ⟨_, rfl⟩
  rw [← hJ] at HL
  have HI := Lib.hid (fun W (hb : Below w.heap.size w W) => inside_c W B s g v ws b t e (p.below hb) to_)
  rw [hin] at HI
  have q1 : (to_ == -1) = false := by simpa using hto
  have q2 : (to_ != -1) = true := by simpa using hto
  clear hJ p hl h1 h2 hg hk hto hin
  go_enter Try.func91, Try.ntmps91
  go_wp2_with fail
  refine Calls.mono HL.out ?_
  rintro r w2 ⟨rfl, b2⟩
  have HB := Lib.hid b2
  clear b2 HL
  go_wp2_with fail
  refine Calls.mono (HI.out w2 HB.out) ?_
  rintro r w3 ⟨rfl, b3⟩
  have HB3 := Lib.hid (HB.out.trans (b3.mono HB.out.size))
  clear b3
  go_wp2_with fail
  go_ret
  exact ⟨rfl, HB3.out⟩
theorem setptr_nil (w : World) (B s g : Nat) (v : Value) (ws : List (BitVec 64)) (b t e : Nat) (p : SpAt w B s g v ws b t e) (hl : ws.length ≤ 100000) (a k : Nat) (h1 : b ≤ a) (h2 : a < t) (hg : goodX (ws.getD a 0#64) (t - a) = true) (hk : k < P0 (ws.getD a 0#64)) :
    Calls Try.prog 91 #[.pointer (some ⟨s, 0, none⟩), .int .i64 a, .int .i64 k, .int .i64 (-1)] w (SetP w B s g v (ws.set (a + 1 + k) 0#64) b t e) := by
  have HL := Lib.hid (ptr_ok w B s g v ws b t e p hl a k h1 h2 hg hk)
  obtain ⟨hj, _⟩ := word_in (b := b) hg h2 p.te p.el hk
  obtain ⟨J, hJ⟩ : ∃ J, J = a + 1 + k := ⟨_, rfl⟩
  rw [← hJ] at HL hj ⊢
  have HS := Lib.hid (fun W (hb : Below w.heap.size w W) => set_in W B g v ws J 0#64 hj hl (p.below hb).mem)
  rw [show U64 (0#64) = 0 from by decide +kernel] at HS
  have HP := Lib.hid p
  have hBw := p.mem.le
  clear hJ p hl h1 h2 hg hk hj
  go_enter Try.func91, Try.ntmps91
  go_wp2_with fail
  refine Calls.mono HL.out ?_
  rintro r w2 ⟨rfl, b2⟩
  have HB := Lib.hid b2
  have c0 := (HP.out.below b2).four.1
  clear b2 HL
  go_wp2_with fail
  refine Calls.mono (HS.out w2 HB.out) ?_
  rintro r w3 ⟨rfl, hm, hg3⟩
  have HF := Lib.hid (And.intro hm hg3)
  clear hm hg3 c0
  go_wp2_with fail
  go_ret
  exact ⟨rfl, (HP.out.below HB.out).memTo HF.out.1 HF.out.2 (by rw [List.length_set]), (Two.below HB.out).trans (Two.grown HF.out.2), (HB.out.mono hBw).trans ((HP.out.below HB.out).mem.own HF.out.2)⟩
theorem setptr_to (w : World) (B s g : Nat) (v : Value) (ws : List (BitVec 64)) (b t e : Nat) (p : SpAt w B s g v ws b t e) (hl : ws.length ≤ 100000) (a k m : Nat) (h1 : b ≤ a) (h2 : a < t) (hg : goodX (ws.getD a 0#64) (t - a) = true) (hk : k < P0 (ws.getD a 0#64)) (hm1 : b ≤ m) (hm2 : m < t) :
    Calls Try.prog 91 #[.pointer (some ⟨s, 0, none⟩), .int .i64 a, .int .i64 k, .int .i64 m] w (SetP w B s g v (ws.set (a + 1 + k) (BitVec.ofNat 64 (m + 1))) b t e) := by
  have HL := Lib.hid (ptr_ok w B s g v ws b t e p hl a k h1 h2 hg hk)
  obtain ⟨hj, _⟩ := word_in (b := b) hg h2 p.te p.el hk
  obtain ⟨J, hJ⟩ : ∃ J, J = a + 1 + k := ⟨_, rfl⟩
  rw [← hJ] at HL hj ⊢
  have hm3 : m < 100000 := by have := p.te; have := p.el; omega
  have HS := Lib.hid (fun W (hb : Below w.heap.size w W) => set_in W B g v ws J (BitVec.ofNat 64 (m + 1)) hj hl (p.below hb).mem)
  rw [ofNat_U64 (m + 1) (by omega), show ((m + 1 : Nat) : Int) = (m : Int) + 1 by omega] at HS
  have HI := Lib.hid (fun W (hb : Below w.heap.size w W) => inside_c W B s g v ws b t e (p.below hb) (m : Int))
  rw [show insB b t (m : Int) = true by unfold insB; simp; omega] at HI
  have HP := Lib.hid p
  have hBw := p.mem.le
  have q1 : ((m : Int) == -1) = false := by simp
  have q2 : ((m : Int) != -1) = true := by simp
  have q3 : (m : Int) ≤ 100000 := by omega
  have q4 : (0 : Int) ≤ (m : Int) := by omega
  clear hJ p hl h1 h2 hg hk hj hm1 hm2 hm3
  go_enter Try.func91, Try.ntmps91
  go_wp2_with fail
  refine Calls.mono HL.out ?_
  rintro r w2 ⟨rfl, b2⟩
  have HB := Lib.hid b2
  clear b2 HL
  go_wp2_with fail
  refine Calls.mono (HI.out w2 HB.out) ?_
  rintro r w3 ⟨rfl, b3⟩
  have HB3 := Lib.hid (HB.out.trans (b3.mono HB.out.size))
  have c0 := (HP.out.below HB3.out).four.1
  clear b3
  go_wp2_with fail
  refine Calls.mono (HS.out w3 HB3.out) ?_
  rintro r w4 ⟨rfl, hm, hg4⟩
  have HF := Lib.hid (And.intro hm hg4)
  clear hm hg4 c0
  go_wp2_with fail
  go_ret
  exact ⟨rfl, (HP.out.below HB3.out).memTo HF.out.1 HF.out.2 (by rw [List.length_set]), (Two.below HB3.out).trans (Two.grown HF.out.2), (HB3.out.mono hBw).trans ((HP.out.below HB3.out).mem.own HF.out.2)⟩
theorem read_err (w : World) (B s g : Nat) (v : Value) (ws : List (BitVec 64)) (b t e : Nat) (p : SpAt w B s g v ws b t e) (hl : ws.length ≤ 100000) (a i n : Int) (h : lkE ws b t a ≠ 0) :
    Calls Try.prog 99 #[.pointer (some ⟨s, 0, none⟩), .int .i64 a, .int .i64 i, .int .i64 n] w (RetP (.tuple #[.slice none 0 0, .int .i64 (lkE ws b t a)]) w) := by
  have HL := Lib.hid (data_err w B s g v ws b t e p hl a i n h)
  obtain ⟨E, hE⟩ : ∃ E, E = lkE ws b t a := ⟨_, rfl⟩
  rw [← hE] at HL h ⊢
  have h1 : (E == 0) = false := by simpa using h
  have h2 : (E != 0) = true := by simpa using h
  clear hE p hl h
  go_enter Try.func99, Try.ntmps99
  go_wp2_with fail
  refine Calls.mono HL.out ?_
  rintro r w2 ⟨rfl, b2⟩
  have HB := Lib.hid b2
  clear b2 HL
  go_wp2_with fail
  go_ret2
  exact ⟨rfl, HB.out⟩
theorem read_no (w : World) (B s g : Nat) (v : Value) (ws : List (BitVec 64)) (b t e : Nat) (p : SpAt w B s g v ws b t e) (hl : ws.length ≤ 100000) (a : Nat) (i n : Int) (h1 : b ≤ a) (h2 : a < t) (hg : goodX (ws.getD a 0#64) (t - a) = true) (hi : noD (B0 (ws.getD a 0#64)) i n) :
    Calls Try.prog 99 #[.pointer (some ⟨s, 0, none⟩), .int .i64 a, .int .i64 i, .int .i64 n] w (RetP (.tuple #[.slice none 0 0, .int .i64 1]) w) := by
  have HL := Lib.hid (data_no w B s g v ws b t e p hl a i n h1 h2 hg hi)
  clear p hl h1 h2 hg hi
  go_enter Try.func99, Try.ntmps99
  go_wp2_with fail
  refine Calls.mono HL.out ?_
  rintro r w2 ⟨rfl, b2⟩
  have HB := Lib.hid b2
  clear b2 HL
  go_wp2_with fail
  go_ret2
  exact ⟨rfl, HB.out⟩
theorem bytes_room {ws : List (BitVec 64)} {t e a i n : Nat} {x : BitVec 64} (hx : goodX x (t - a) = true) (h2 : a < t) (hte : t ≤ e) (hel : e ≤ ws.length) (hi : i + n ≤ B0 x) : 8 * (a + 1 + P0 x) + i + n ≤ 8 * t ∧ 8 * (a + 1 + P0 x) + i + n ≤ 8 * ws.length := by
  obtain ⟨_, _, _, h, _, h3⟩ := head_of hx
  omega
theorem read_ok (w : World) (B s g : Nat) (v : Value) (ws : List (BitVec 64)) (b t e : Nat) (p : SpAt w B s g v ws b t e) (hl : ws.length ≤ 100000) (a i n : Nat) (h1 : b ≤ a) (h2 : a < t) (hg : goodX (ws.getD a 0#64) (t - a) = true) (hi : i + n ≤ B0 (ws.getD a 0#64)) :
    Calls Try.prog 99 #[.pointer (some ⟨s, 0, none⟩), .int .i64 a, .int .i64 i, .int .i64 n] w (MkEP b8 5 (bytesM ws (8 * (a + 1 + P0 (ws.getD a 0#64)) + i) n) 0 w) := by
  have HL := Lib.hid (data_ok w B s g v ws b t e p hl a i n h1 h2 hg hi)
  obtain ⟨_, hr⟩ := bytes_room hg h2 p.te p.el hi
  obtain ⟨J, hJ⟩ : ∃ J, J = 8 * (a + 1 + P0 (ws.getD a 0#64)) + i := ⟨_, rfl⟩
  rw [← hJ] at HL hr ⊢
  have HR := Lib.hid (fun W (hb : Below w.heap.size w W) => bytes_in W B g v ws J n hr hl (p.below hb).mem)
  have HC := Lib.hid (fun W (hb : Below w.heap.size w W) => (p.below hb).four.1)
  clear hJ p hl h1 h2 hg hi hr
  go_enter Try.func99, Try.ntmps99
  go_wp2_with fail
  refine Calls.mono HL.out ?_
  rintro r w2 ⟨rfl, b2⟩
  have HB := Lib.hid b2
  have c0 := HC.out w2 b2
  clear b2 HL
  go_wp2_with fail
  refine Calls.mono (HR.out w2 HB.out) ?_
  rintro r w3 ⟨A, c, rfl, hc, ho, b3⟩
  have HO := Lib.hid (And.intro hc (And.intro ho b3))
  obtain ⟨F, hF⟩ : ∃ F, F = (bytesM ws J n).length := ⟨_, rfl⟩
  have HFl := Lib.hid hF
  rw [← hF]
  clear hc ho b3 c0 hF
  go_wp2_with fail
  go_ret2
  rw [HFl.out]
  exact MkEP.of (HO.out.2.1.mono HB.out.size) (HB.out.trans (HO.out.2.2.mono HB.out.size))
theorem write_err (w : World) (B s g : Nat) (v : Value) (ws : List (BitVec 64)) (b t e : Nat) (p : SpAt w B s g v ws b t e) (hl : ws.length ≤ 100000) (a i : Int) (A : Option Addr) (n c : Nat) (h : lkE ws b t a ≠ 0) :
    Calls Try.prog 92 #[.pointer (some ⟨s, 0, none⟩), .int .i64 a, .int .i64 i, .slice A n c] w (RetP (.int .i64 (lkE ws b t a)) w) := by
  have HL := Lib.hid (data_err w B s g v ws b t e p hl a i (n : Int) h)
  obtain ⟨E, hE⟩ : ∃ E, E = lkE ws b t a := ⟨_, rfl⟩
  rw [← hE] at HL h ⊢
  have h1 : (E == 0) = false := by simpa using h
  have h2 : (E != 0) = true := by simpa using h
  clear hE p hl h
  go_enter Try.func92, Try.ntmps92
  go_wp2_with fail
  refine Calls.mono HL.out ?_
  rintro r w2 ⟨rfl, b2⟩
  have HB := Lib.hid b2
  clear b2 HL
  go_wp2_with fail
  go_ret
  exact ⟨rfl, HB.out⟩
theorem write_no (w : World) (B s g : Nat) (v : Value) (ws : List (BitVec 64)) (b t e : Nat) (p : SpAt w B s g v ws b t e) (hl : ws.length ≤ 100000) (a : Nat) (i : Int) (A : Option Addr) (n c : Nat) (h1 : b ≤ a) (h2 : a < t) (hg : goodX (ws.getD a 0#64) (t - a) = true) (hi : noD (B0 (ws.getD a 0#64)) i (n : Int)) :
    Calls Try.prog 92 #[.pointer (some ⟨s, 0, none⟩), .int .i64 a, .int .i64 i, .slice A n c] w (RetP (.int .i64 1) w) := by
  have HL := Lib.hid (data_no w B s g v ws b t e p hl a i (n : Int) h1 h2 hg hi)
  clear p hl h1 h2 hg hi
  go_enter Try.func92, Try.ntmps92
  go_wp2_with fail
  refine Calls.mono HL.out ?_
  rintro r w2 ⟨rfl, b2⟩
  have HB := Lib.hid b2
  clear b2 HL
  go_wp2_with fail
  go_ret
  exact ⟨rfl, HB.out⟩
theorem write_ok (w : World) (B s g : Nat) (v : Value) (ws : List (BitVec 64)) (b t e : Nat) (p : SpAt w B s g v ws b t e) (hl : ws.length ≤ 100000) (a i : Nat) (A : Option Addr) (c : Nat) (bs : List (BitVec 8)) (h1 : b ≤ a) (h2 : a < t) (hg : goodX (ws.getD a 0#64) (t - a) = true) (hi : i + bs.length ≤ B0 (ws.getD a 0#64)) (hr : Rd b8 w w.heap.size A bs) (hap : 0 < bs.length → ∀ x, A = some x → some x.block ≠ v.ownBlock) :
    Calls Try.prog 92 #[.pointer (some ⟨s, 0, none⟩), .int .i64 a, .int .i64 i, .slice A bs.length c] w (SetP w B s g v (putK ws (8 * (a + 1 + P0 (ws.getD a 0#64)) + i) bs bs.length) b t e) := by
  have HL := Lib.hid (data_ok w B s g v ws b t e p hl a i bs.length h1 h2 hg hi)
  obtain ⟨_, hro⟩ := bytes_room hg h2 p.te p.el hi
  obtain ⟨J, hJ⟩ : ∃ J, J = 8 * (a + 1 + P0 (ws.getD a 0#64)) + i := ⟨_, rfl⟩
  rw [← hJ] at HL hro ⊢
  have HS := Lib.hid (fun W (hb : Below w.heap.size w W) => setBytes_in W B g v ws J A c bs hro hl (p.below hb).mem ((hr.below hb).more hb.size) hap)
  obtain ⟨n, hn⟩ : ∃ n, n = bs.length := ⟨_, rfl⟩
  rw [← hn] at HL HS ⊢
  have HP := Lib.hid p
  have hBw := p.mem.le
  have HLn := Lib.hid hl
  clear hJ p hl h1 h2 hg hi hro hr hap hn
  go_enter Try.func92, Try.ntmps92
  go_wp2_with fail
  refine Calls.mono HL.out ?_
  rintro r w2 ⟨rfl, b2⟩
  have HB := Lib.hid b2
  have c0 := (HP.out.below b2).four.1
  clear b2 HL
  go_wp2_with fail
  refine Calls.mono (HS.out w2 HB.out) ?_
  rintro r w3 ⟨rfl, hm, hg3⟩
  have HF := Lib.hid (And.intro hm hg3)
  clear hm hg3 c0
  go_wp2_with fail
  go_ret
  exact ⟨rfl, (HP.out.below HB.out).memTo HF.out.1 HF.out.2 (putK_len _ _ _ _), (Two.below HB.out).trans (Two.grown HF.out.2), (HB.out.mono hBw).trans ((HP.out.below HB.out).mem.own HF.out.2)⟩
end Go.Proofs.Ytaminpfgkegibaa
