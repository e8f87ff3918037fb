/- The law DiskSyncs of layer 3 returns true for every argument. No conditions. -/
import Derived.Test.YtfcbmdmkdjaoaaaDkO
import Derived.Test.YtfcbmdmkdjaoaaaFrame
import Derived.Test.YtfcbmdmkdjaoaaaOpenZ
namespace Go.Proofs.Ytfcbmdmkdjaoaaa
set_option linter.unusedVariables false
set_option linter.unusedSimpArgs false
open Go.RowKit Go.Maps
def blk (v : BitVec 8) : List (BitVec 8) := (List.replicate 64 0#8).set 0 v
theorem blk_len (v : BitVec 8) : (blk v).length = 64 := by simp [blk]
theorem blk_at (v : BitVec 8) : (blk v).getD 0 0#8 = v := by simp [blk]
/-- The writes of a loop: to sectors as fs says, marked by c and their number. -/
def PL (c : Nat) (fs : List (BitVec 8)) (k : Nat) : List PW := (List.range k).map fun i => ((fs.getD i 0#8).toNat, blk (BitVec.ofNat 8 (c + i)))
theorem PL_succ (c : Nat) (fs : List (BitVec 8)) (k : Nat) : PL c fs (k + 1) = PL c fs k ++ [((fs.getD k 0#8).toNat, blk (BitVec.ofNat 8 (c + k)))] := by unfold PL; rw [List.range_succ, List.map_append]; rfl
theorem PL_len (c : Nat) (fs : List (BitVec 8)) (k : Nat) : (PL c fs k).length = k := by simp [PL]
theorem PL_ok {c : Nat} {fs : List (BitVec 8)} {k : Nat} {p : PW} (h : p ∈ PL c fs k) : p.1 < 256 ∧ p.2.length = 64 := by
  obtain ⟨i, _, rfl⟩ := List.mem_map.1 h
  exact ⟨(fs.getD i 0#8).isLt, blk_len _⟩
/-- What is wanted of each sector. -/
def setL (fk : Nat → Bool) : List PW → Nat → List (BitVec 8) → List (BitVec 8)
  | [], _, ws => ws
  | p :: l, i, ws => setL fk l (i + 1) (if fk i then ws.set p.1 (p.2.getD 0 0#8) else ws)
theorem setL_snoc (fk : Nat → Bool) (p : PW) : ∀ (L : List PW) (i : Nat) (ws : List (BitVec 8)), setL fk (L ++ [p]) i ws = if fk (i + L.length) then (setL fk L i ws).set p.1 (p.2.getD 0 0#8) else setL fk L i ws
  | [], i, ws => by simp [setL]
  | q :: l, i, ws => by
    rw [List.cons_append, setL, setL_snoc fk p l (i + 1), setL, List.length_cons, show i + 1 + l.length = i + (l.length + 1) by omega]
theorem setL_len (fk : Nat → Bool) : ∀ (L : List PW) (i : Nat) (ws : List (BitVec 8)), (setL fk L i ws).length = ws.length
  | [], _, _ => rfl
  | p :: l, i, ws => by rw [setL, setL_len fk l]; split <;> simp
theorem layA_first (ks ys : List (BitVec 8)) (p s : Nat) (hy : ys.length = 64) (hp : p * 64 + 64 ≤ ks.length) : (layA ks (p * 64) ys).getD (s * 64) 0#8 = if s = p then ys.getD 0 0#8 else ks.getD (s * 64) 0#8 := by
  unfold layA
  rw [List.getD_eq_getElem?_getD, List.getD_eq_getElem?_getD, List.getD_eq_getElem?_getD, hy]
  by_cases h1 : s < p
  · rw [if_neg (by omega), List.getElem?_append_left (by rw [List.length_take]; omega), List.getElem?_take_of_lt (by omega)]
  · rw [List.getElem?_append_right (by rw [List.length_take]; omega), List.length_take, Nat.min_eq_left (by omega)]
    by_cases h2 : s = p
    · subst h2
      rw [if_pos rfl, Nat.sub_self, List.getElem?_append_left (by omega)]
    · rw [if_neg h2, List.getElem?_append_right (by omega), List.getElem?_drop, hy]
      congr 2; omega
theorem set_first (ws : List (BitVec 8)) (p s : Nat) (v : BitVec 8) (hp : p < ws.length) : (ws.set p v).getD s 0#8 = if s = p then v else ws.getD s 0#8 := by
  rw [List.getD_eq_getElem?_getD, List.getD_eq_getElem?_getD, List.getElem?_set]
  by_cases h : s = p
  · subst h; simp [hp]
  · rw [if_neg h, if_neg (fun e => h e.symm)]
theorem lay_set (fk : Nat → Bool) : ∀ (L : List PW) (i : Nat) (ks ws : List (BitVec 8)), (∀ p ∈ L, p.1 < 256 ∧ p.2.length = 64) → ks.length = 16384 → ws.length = 256 → (∀ s, s < 256 → ks.getD (s * 64) 0#8 = ws.getD s 0#8) →
    ∀ s, s < 256 → (layL 64 fk L i ks).getD (s * 64) 0#8 = (setL fk L i ws).getD s 0#8
  | [], _, _, _, _, _, _, h => h
  | p :: l, i, ks, ws, hp, hk, hw, h => by
    obtain ⟨p1, p2⟩ := hp p List.mem_cons_self
    rw [layL, setL]
    refine lay_set fk l (i + 1) _ _ (fun q hq => hp q (List.mem_cons_of_mem _ hq)) ?_ ?_ ?_
    · split
      · rw [layA_len _ _ _ (by omega), hk]
      · exact hk
    · split <;> simp [hw]
    · intro s hs
      cases fk i with
      | false => exact h s hs
      | true =>
        simp only [if_true]
        rw [layA_first _ _ _ _ p2 (by omega), set_first _ _ _ _ (by omega), h s hs]
def zer : List (BitVec 8) := List.replicate 16384 0#8
def wan : List (BitVec 8) := List.replicate 256 0#8
theorem zer_len : zer.length = 16384 := List.length_replicate ..
theorem wan_len : wan.length = 256 := List.length_replicate ..
theorem zer_wan (s : Nat) (hs : s < 256) : zer.getD (s * 64) 0#8 = wan.getD s 0#8 := by
  rw [List.getD_eq_getElem?_getD, List.getD_eq_getElem?_getD, zer, wan, List.getElem?_replicate, List.getElem?_replicate, if_pos (by omega), if_pos (by omega)]
def dA (ks : List (BitVec 8)) (c : Nat) (fs : List (BitVec 8)) (n k : Nat) : DK := ⟨64, 256, ks, PL c fs k, false, 0, [], n + k⟩
theorem dA_push (ks : List (BitVec 8)) (c : Nat) (fs : List (BitVec 8)) (n k : Nat) : (({ dA ks c fs n k with armed := (dA ks c fs n k).armed - 1 } : DK).push (fs.getD k 0#8).toNat (blk (BitVec.ofNat 8 (c + k)))) = dA ks c fs n (k + 1) := by
  unfold dA DK.push
  rw [PL_succ]
  rfl
def arrOf (ws : List (BitVec 8)) : Array Value := (ws.map b8).toArray
set_option maxHeartbeats 400000
set_option maxRecDepth 100000
theorem zero56 (W : World) : (zeroValue 56).run Try.prog W = .ok (.agg (arrOf wan)) W := by
  have e : arrOf wan = Array.replicate 256 (.int .u8 0) := by
    unfold arrOf wan
    apply Array.ext'
    simp [b8, U8]
  have h : (zeroValue 56).run Try.prog W = .ok (.agg (Array.replicate 256 (.int .u8 0))) W := by kernel_rfl
  rw [e]; exact h
theorem q3_new (w : World) : Calls Try.prog 8 #[.int .i64 256, .int .i64 64] w fun e w' => ∃ g, e = .returned (.tuple #[.pointer (some ⟨g, 0, none⟩), .int .i64 0]) ∧ DiskX w.heap.size (fun _ => False) w' g (dA zer 1 [] 0 0) ∧ Below w.heap.size w w' := dnew_ok w 256 64 (by decide) (by decide)
theorem dA_settle (c2 : Nat) (gs : List (BitVec 8)) {ks : List (BitVec 8)} {c : Nat} {fs : List (BitVec 8)} {n k : Nat} : (dA ks c fs n k).settled (fun _ => true) = dA (layL 64 (fun _ => true) (PL c fs k) 0 ks) c2 gs (n + k) 0 := rfl
theorem sy_reg (Q : Exit → Act → World → Prop) (a0 : Act) (w : World) (qa wb c r : Nat) (z : Int) (hq : qa < w.heap.size) (hw : wb < w.heap.size) (c0 : w.cell? ⟨qa, 0, none⟩ = some (.int .u8 z)) (c1 : w.cell? ⟨wb, r, none⟩ = some (.int .u8 z)) (p1 : (0 : Int) ≤ (r : Int)) (p2 : (r : Int) < 256) (p3 : r < 256) (hsz : a0.tmps.size = 132) (sl9 : a0.tmps.getD 9 undef = .pointer (some ⟨wb, 0, none⟩)) (sl14 : a0.tmps.getD 14 undef = .int .i64 r) (sl15 : a0.tmps.getD 15 undef = .slice (some ⟨qa, 0, none⟩) 64 c) (sl16 : a0.tmps.getD 16 undef = .int .i64 0)
    (fin : ∀ (vals : Nat → Value) (w1 : World), Below w.heap.size w w1 → (IsV (.bool false)) (vals 10) w1 → Q .normal (putD vals [121, 122, 123, 124, 125, 126, 127, 128, 129, 130, 131] 0 a0) w1) :
    (Code.region 31 (regIn Try.f5 31) true).wp Try.prog Q a0 w := by
  refine region_by (G := fun w w1 => Below w.heap.size w w1) [IsV (.int .i64 0),
    IsV (.bool false),
    IsV (.bool false),
    IsV (.slice (some ⟨qa, 0, none⟩) 64 c),
    IsV (.pointer (some ⟨qa, 0, none⟩)),
    IsV (.int .u8 z),
    IsV (.int .i64 r),
    IsV (.pointer (some ⟨wb, r, none⟩)),
    IsV (.int .u8 z),
    IsV (.bool false),
    IsV (.bool false)]
    [121, 122, 123, 124, 125, 126, 127, 128, 129, 130, 131] (by kernel_rfl) (Gw.drew _) Gw.trans (by rw [hsz]; kernel_rfl) (by kernel_rfl) ?_ ?_ ?_
  · intro f hf
    simp only [List.mem_cons, List.not_mem_nil, or_false] at hf
    rcases hf with rfl | rfl | rfl | rfl | rfl | rfl | rfl | rfl | rfl | rfl | rfl <;> intro v a b h g <;> first | exact IsV.mono h
  · refine ⟨?_, ?_, ?_, ?_, ?_, ?_, ?_, ?_, ?_, ?_, ?_, trivial⟩
    · exact owes_mv 16 (by kernel_rfl) (by kernel_rfl) (by kernel_rfl) sl16 (fun _ => rfl)
    · refine owes_v (Go.Op.binOp Go.BinOp.neq 3 (Go.Operand.tmp 121) (Go.Operand.const (Go.Value.int Go.IntKind.i64 0)) 3) 4 [0] (by kernel_rfl) (by kernel_rfl) (by kernel_rfl) rfl fun vals w1 ρ hG hF hρ hcst hfun => ?_
      have e121 : ρ (.tmp 121) = .int .i64 0 := ((hρ 121).trans (slotJ [0] (by rw [hsz]; decide) (by kernel_rfl))).trans (hF 0 (by decide))
      clear hρ hF hfun sl9 sl14 sl15 sl16 fin
      exact opv_val (by go_simp <;> rfl) ⟨gw_self _, rfl⟩
    · exact owes_mvj 1 122 (by kernel_rfl) (by kernel_rfl) (by kernel_rfl) (by kernel_rfl) (by rw [hsz]; decide) (fun v w h => h)
    · refine owes_vt 2 false (Go.Op.move (Go.Operand.tmp 15)) 34 [] (by kernel_rfl) (by kernel_rfl) (by kernel_rfl) (fun _ _ h => h) (by rw [hsz]; kernel_rfl) (by kernel_rfl) rfl fun vals w1 ρ hG hF hρ hcst hfun => ?_
      have e15 : ρ (.tmp 15) = .slice (some ⟨qa, 0, none⟩) 64 c := ((hρ 15).trans (slotO [] (by kernel_rfl))).trans sl15
      clear hρ hF hcst hfun sl9 sl14 sl15 sl16 fin
      exact opv_val (by go_simp <;> rfl) ⟨gw_self _, rfl⟩
    · refine owes_vt 2 false (Go.Op.indexAddr 34 (Go.Operand.tmp 124) (Go.Operand.const (Go.Value.int Go.IntKind.i64 0))) 0 [3] (by kernel_rfl) (by kernel_rfl) (by kernel_rfl) (fun _ _ h => h) (by rw [hsz]; kernel_rfl) (by kernel_rfl) rfl fun vals w1 ρ hG hF hρ hcst hfun => ?_
      have e124 : ρ (.tmp 124) = .slice (some ⟨qa, 0, none⟩) 64 c := ((hρ 124).trans (slotJ [3] (by rw [hsz]; decide) (by kernel_rfl))).trans (hF 3 (by decide))
      clear hρ hF hfun sl9 sl14 sl15 sl16 fin
      exact opv_val (by go_simp <;> rfl) ⟨gw_self _, rfl⟩
    · refine owes_vt 2 false (Go.Op.load 5 (Go.Operand.tmp 125)) 5 [4] (by kernel_rfl) (by kernel_rfl) (by kernel_rfl) (fun _ _ h => h) (by rw [hsz]; kernel_rfl) (by kernel_rfl) rfl fun vals w1 ρ hG hF hρ hcst hfun => ?_
      have e125 : ρ (.tmp 125) = .pointer (some ⟨qa, 0, none⟩) := ((hρ 125).trans (slotJ [4] (by rw [hsz]; decide) (by kernel_rfl))).trans (hF 4 (by decide))
      have k := (hG.cell (p := ⟨qa, 0, none⟩) hq).trans c0
      clear hρ hF hcst hfun sl9 sl14 sl15 sl16 fin
      exact opv_val (by go_simp <;> rfl) ⟨gw_self _, rfl⟩
    · refine owes_vt 2 false (Go.Op.move (Go.Operand.tmp 14)) 3 [] (by kernel_rfl) (by kernel_rfl) (by kernel_rfl) (fun _ _ h => h) (by rw [hsz]; kernel_rfl) (by kernel_rfl) rfl fun vals w1 ρ hG hF hρ hcst hfun => ?_
      have e14 : ρ (.tmp 14) = .int .i64 r := ((hρ 14).trans (slotO [] (by kernel_rfl))).trans sl14
      clear hρ hF hcst hfun sl9 sl14 sl15 sl16 fin
      exact opv_val (by go_simp <;> rfl) ⟨gw_self _, rfl⟩
    · refine owes_vt 2 false (Go.Op.indexAddr 56 (Go.Operand.tmp 9) (Go.Operand.tmp 127)) 0 [6] (by kernel_rfl) (by kernel_rfl) (by kernel_rfl) (fun _ _ h => h) (by rw [hsz]; kernel_rfl) (by kernel_rfl) rfl fun vals w1 ρ hG hF hρ hcst hfun => ?_
      have e9 : ρ (.tmp 9) = .pointer (some ⟨wb, 0, none⟩) := ((hρ 9).trans (slotO [6] (by kernel_rfl))).trans sl9
      have e127 : ρ (.tmp 127) = .int .i64 r := ((hρ 127).trans (slotJ [6] (by rw [hsz]; decide) (by kernel_rfl))).trans (hF 6 (by decide))
      clear hρ hF hcst hfun sl9 sl14 sl15 sl16 fin
      exact opv_val (by go_simp <;> rfl) ⟨gw_self _, rfl⟩
    · refine owes_vt 2 false (Go.Op.load 5 (Go.Operand.tmp 128)) 5 [7] (by kernel_rfl) (by kernel_rfl) (by kernel_rfl) (fun _ _ h => h) (by rw [hsz]; kernel_rfl) (by kernel_rfl) rfl fun vals w1 ρ hG hF hρ hcst hfun => ?_
      have e128 : ρ (.tmp 128) = .pointer (some ⟨wb, r, none⟩) := ((hρ 128).trans (slotJ [7] (by rw [hsz]; decide) (by kernel_rfl))).trans (hF 7 (by decide))
      have k := (hG.cell (p := ⟨wb, r, none⟩) hw).trans c1
      clear hρ hF hcst hfun sl9 sl14 sl15 sl16 fin
      exact opv_val (by go_simp <;> rfl) ⟨gw_self _, rfl⟩
    · refine owes_vt 2 false (Go.Op.binOp Go.BinOp.neq 5 (Go.Operand.tmp 126) (Go.Operand.tmp 129) 5) 4 [5, 8] (by kernel_rfl) (by kernel_rfl) (by kernel_rfl) (fun _ _ h => h) (by rw [hsz]; kernel_rfl) (by kernel_rfl) rfl fun vals w1 ρ hG hF hρ hcst hfun => ?_
      have e126 : ρ (.tmp 126) = .int .u8 z := ((hρ 126).trans (slotJ [5, 8] (by rw [hsz]; decide) (by kernel_rfl))).trans (hF 5 (by decide))
      have e129 : ρ (.tmp 129) = .int .u8 z := ((hρ 129).trans (slotJ [5, 8] (by rw [hsz]; decide) (by kernel_rfl))).trans (hF 8 (by decide))
      clear hρ hF hcst hfun sl9 sl14 sl15 sl16 fin
      exact opv_val (by go_simp <;> rfl) ⟨gw_self _, rfl⟩
    · refine owes_v (Go.Op.pick (Go.Operand.tmp 123) (Go.Operand.const (Go.Value.bool true)) (Go.Operand.tmp 130)) 4 [2, 9] (by kernel_rfl) (by kernel_rfl) (by kernel_rfl) rfl fun vals w1 ρ hG hF hρ hcst hfun => ?_
      have e123 : ρ (.tmp 123) = .bool false := ((hρ 123).trans (slotJ [2, 9] (by rw [hsz]; decide) (by kernel_rfl))).trans (hF 2 (by decide))
      have e130 : ρ (.tmp 130) = .bool false := ((hρ 130).trans (slotJ [2, 9] (by rw [hsz]; decide) (by kernel_rfl))).trans (hF 9 (by decide))
      clear hρ hF hfun sl9 sl14 sl15 sl16 fin
      exact opv_val (by go_simp <;> rfl) ⟨gw_self _, rfl⟩
  · intro vals w1 hG hF
    exact fin vals w1 hG (hF 10 (by decide +kernel))
theorem q3_write {w : World} {B wb q g : Nat} {ks fs : List (BitVec 8)} {c n k : Nat} (h : DiskX B (fun i => i = wb) w g (dA ks c fs n k)) (hwb : wb < w.heap.size) (hq : q < w.heap.size) (hB : B ≤ w.heap.size) (hn : n ≤ 100) (hk : k ≤ 100) (hr : Rd b8 w w.heap.size (some ⟨q, 0, none⟩) (blk (BitVec.ofNat 8 (c + k)))) (hnew : DiskX B (fun i => i = wb ∨ i = q) w g (dA ks c fs n k)) (s : Nat) (hs : s = (fs.getD k 0#8).toNat) :
    Calls Try.prog 10 #[.pointer (some ⟨g, 0, none⟩), .int .i64 s, .slice (some ⟨q, 0, none⟩) 64 64] w (DkP B (fun i => i = wb ∨ i = q) w g (dA ks c fs n (k + 1)) (.int .i64 0)) := by
  have := xwrite_ok hnew (fun i e => by omega) hB s (some ⟨q, 0, none⟩) (blk (BitVec.ofNat 8 (c + k))) 64 rfl (by rw [hs]; exact (fs.getD k 0#8).isLt) (blk_len _) (show (0 : Nat) ≠ 1 by decide) hr (fun a e => by injection e with e; subst e; exact .inr (.inr rfl)) (by show (PL c fs k).length < 100000; rw [PL_len]; omega) (by show n + k < 1000000; omega)
  rw [blk_len, hs, dA_push] at this
  rw [hs]
  exact this
theorem syncs_in (w : World) (A C D : Option Addr) (fs ss : List (BitVec 8)) (kp : List Bool) (ca cc cd : Nat) (h1 : fs.length ≤ 40) (h2 : ss.length ≤ 40) (h3 : kp.length ≤ 100) (r1 : Rd b8 w w.heap.size A fs) (r2 : Rd b8 w w.heap.size C ss) (r3 : Rd boV w w.heap.size D kp) (hD : ∀ a, D = some a → a.block < w.heap.size) : Calls Try.prog 5 #[.slice A fs.length ca, .slice C ss.length cc, .slice D kp.length cd] w (TruP (.bool true) w) := by
  obtain ⟨n, hn⟩ : ∃ n, n = fs.length := ⟨_, rfl⟩
  obtain ⟨m, hm⟩ : ∃ m, m = ss.length := ⟨_, rfl⟩
  obtain ⟨p, hp⟩ : ∃ p, p = kp.length := ⟨_, rfl⟩
  rw [← hn, ← hm, ← hp]
  rw [← hn] at h1
  rw [← hm] at h2
  rw [← hp] at h3
  have HN := Lib.hid (And.intro hn (And.intro hm hp))
  have HR := Lib.hid (And.intro r1 (And.intro r2 r3))
  have HDB0 := Lib.hid hD
  have t1 : decide ((40 : Int) < (n : Int)) = false := by simp; omega
  have t2 : decide ((40 : Int) < (m : Int)) = false := by simp; omega
  have t3 : decide ((100 : Int) < (p : Int)) = false := by simp; omega
  have q1 : (n : Int) ≤ 40 := by omega
  have q2 : (m : Int) ≤ 40 := by omega
  have q3 : (p : Int) ≤ 100 := by omega
  obtain ⟨arr, harr⟩ : ∃ arr, arr = arrOf wan := ⟨_, rfl⟩
  have hz := zero56
  rw [← harr] at hz
  have HARR := Lib.hid harr
  clear hn hm hp r1 r2 r3 harr hD
  go_enter Try.func5, Try.ntmps5
  go_wp2_with fail
  refine Calls.mono (known3_c w) ?_
  rintro e w1 ⟨rfl, d1⟩
  have HB1 := Lib.hid d1
  have HDB := Lib.hid (show ∀ a, D = some a → a.block < w1.heap.size from fun a e => Nat.lt_of_lt_of_le (HDB0.out a e) d1.size)
  clear d1 HDB0
  go_wp2_with fail
  refine Calls.mono (q3_new w1) ?_
  rintro e w2 ⟨g, rfl, h2, d2⟩
  have H2 := Lib.hid h2
  have HB2 := Lib.hid d2
  clear h2 d2
  go_wp2_with fail
  have hal := Gw.alloc w2 (.cells arr 56)
  have H3 := Lib.hid (((H2.out.besides (X' := fun i => i = w2.heap.size) (fun k e => .inr (by omega))).below hal))
  have HW3 := Lib.hid (Bk.new w2 56 arr)
  have HB3 := Lib.hid (HB2.out.trans (hal.mono HB2.out.size))
  have HL := Lib.hid HB2.out.size
  obtain ⟨wb, hwb⟩ : ∃ wb, wb = w2.heap.size := ⟨_, rfl⟩
  rw [← hwb] at H3 HW3 HL ⊢
  obtain ⟨w3, hw3⟩ : ∃ x, x = w2.alloc (.cells arr 56) := ⟨_, rfl⟩
  rw [← hw3] at H3 HW3 HB3 ⊢
  rw [HARR.out] at HW3
  have HLW := Lib.hid HW3.out.lt
  clear hal hwb hw3 HB2 H2 hz
  go_loopw [10] (fun i wr => ∃ k : Nat, k ≤ n ∧ i = .int .i64 k ∧ Hid (DiskX w1.heap.size (fun i => i = wb) wr g (dA zer 1 fs 0 k)) ∧ Hid (Bk wr wb 56 (arrOf (setL (fun _ => true) (PL 1 fs k) 0 wan))) ∧ Hid (Below w1.heap.size w1 wr)) (fun i _ => n - (intOf i).toNat)
  case atStart => exact ⟨0, by omega, rfl, H3, HW3, HB3⟩
  case round =>
    obtain ⟨k, hk, rfl, hd, hw, hB⟩ := hrel
    by_cases hlt : k < n
    · have p1 : (0 : Int) ≤ (k : Int) := by omega
      have p2 : (k : Int) < (n : Int) := by omega
      have hsl : k < fs.length := by rw [← HN.out.1]; exact hlt
      obtain ⟨ad, rfl, hadb, hcl0⟩ := (HR.out.1.below (HB1.out.trans (hB.out.mono HB1.out.size))) k hsl
      have hgd : fs.getD k 0#8 = fs[k] := by rw [List.getD_eq_getElem?_getD, List.getElem?_eq_getElem hsl]; rfl
      obtain ⟨s, hs⟩ : ∃ s : Nat, s = (fs[k]).toNat := ⟨_, rfl⟩
      have hs2 : s < 256 := by rw [hs]; exact (fs[k]).isLt
      have hcl : wr.cell? (ad.add k) = some (.int .u8 (s : Int)) := by rw [hcl0, hs]; rfl
      have q4 : (0 : Int) ≤ (s : Int) := by omega
      have q5 : (s : Int) ≤ 255 := by omega
      have q6 : s < 256 := hs2
      have HS := Lib.hid (show s = (fs.getD k 0#8).toNat from by rw [hgd, hs])
      have HV := Lib.hid (show Value.int .u8 ((k : Int) + 1) = b8 (BitVec.ofNat 8 (1 + k)) from by
        unfold b8 U8
        rw [BitVec.toNat_ofNat]
        congr 1
        omega)
      have HAD := Lib.hid (And.intro hadb hcl)
      clear hgd hs hs2 hcl0 hsl hadb
      go_wp2_with (at_make; refine wp_make (f := b8) one8 rfl _ _ rfl (0#8) rfl wr.heap.size 64 .i64 .i64 64 64 rfl rfl rfl rfl (by decide) (by decide) (Nat.le_refl _) ?_; intro q w4 hq ho hb hg; have HQ := Lib.hid hq; have HO := Lib.hid ho; have HB4 := Lib.hid hb; clear hq ho hb hg; have f0 := HO.out.free 0; have hc0 : w4.cell? ⟨q, 0, none⟩ = some (.int .u8 0) := HO.out.cell (j := 0) (by decide); have hcx : (w4.setCell ⟨q, 0, none⟩ (.int .u8 ((k : Int) + 1))).cell? (ad.add k) = some (.int .u8 (s : Int)) := (World.cell?_setCell_other w4 ⟨q, 0, none⟩ (ad.add k) _ (fun e => by have e2 := congrArg Addr.block e; rw [add_block] at e2; have h1 := HAD.out.1; have h2 := HQ.out; have h3 := hB.out.size; have h4 := HB1.out.size; simp only at e2; omega)).trans ((HB4.out.cell (p := ad.add k) (by rw [add_block]; have h1 := HAD.out.1; have h3 := hB.out.size; have h4 := HB1.out.size; omega)).trans HAD.out.2))
      have hX : Below wr.heap.size wr (w4.setCell ⟨q, 0, none⟩ (.int .u8 ((k : Int) + 1))) := HB4.out.setCell (p := ⟨q, 0, none⟩) (by have := HQ.out; show wr.heap.size ≤ q; omega) _
      have H5 := Lib.hid ((hd.out.besides (X' := fun i => i = wb ∨ i = q) (fun i e => by
        rcases e with e | e
        · exact .inl e
        · have := HQ.out; exact .inr (by omega))).below hX)
      have H5b := Lib.hid (hd.out.below hX)
      have HRB := Lib.hid (show Rd b8 (w4.setCell ⟨q, 0, none⟩ (.int .u8 ((k : Int) + 1))) (w4.setCell ⟨q, 0, none⟩ (.int .u8 ((k : Int) + 1))).heap.size (some ⟨q, 0, none⟩) (blk (BitVec.ofNat 8 (1 + k))) from by rw [HV.out]; exact (HO.out.set (j := 0) (by decide) (BitVec.ofNat 8 (1 + k))).rd2)
      have HQ5 := Lib.hid (show q < (w4.setCell ⟨q, 0, none⟩ (.int .u8 ((k : Int) + 1))).heap.size ∧ wb < (w4.setCell ⟨q, 0, none⟩ (.int .u8 ((k : Int) + 1))).heap.size ∧ wb < q from by
        have h1 := (HO.out.lt q rfl).2
        have h2 := hw.out.lt
        have h3 := HQ.out
        simp
        omega)
      have HBX := Lib.hid hX
      have HWX := Lib.hid (show Bk (w4.setCell ⟨q, 0, none⟩ (.int .u8 ((k : Int) + 1))) wb 56 (arrOf (setL (fun _ => true) (PL 1 fs k) 0 wan)) from hw.out.below hX hw.out.lt)
      have HWr := Lib.hid (q3_write H5b.out HQ5.out.2.1 HQ5.out.1 (Nat.le_trans hB.out.size hX.size) (by omega) (by omega) HRB.out H5.out s HS.out)
      clear hX f0 hc0
      refine Calls.mono HWr.out ?_
      rintro e w6 ⟨rfl, h6, k6⟩
      have H6 := Lib.hid (h6.besides (X' := fun i => i = wb) (fun i e => .inl (.inl e)))
      have hcy : w6.cell? (ad.add k) = some (.int .u8 (s : Int)) := (k6.cell (p := ad.add k) (by rw [add_block]; have := HAD.out.1; have := HB1.out.size; have := hB.out.size; have := HBX.out.size; omega) (by rw [add_block]; rintro ⟨f, _⟩; have := HAD.out.1; have := HB1.out.size; omega)).trans hcx
      have hw6 := k6.bk HWX.out (fun f => f.2 (.inl rfl))
      have HB6 := Lib.hid (hB.out.trans ((HBX.out.mono hB.out.size).trans (k6.below (Nat.le_trans hB.out.size HBX.out.size) (fun _ e => e.1))))
      have hwl : (setL (fun _ => true) (PL 1 fs k) 0 wan).length = 256 := by rw [setL_len, wan_len]
      have fwb := hw6.free s
      obtain ⟨vo, hvo⟩ : ∃ vo, w6.cell? ⟨wb, s, none⟩ = some vo := ⟨_, (hw6.cell s).trans (Array.getElem?_eq_getElem (by unfold arrOf; rw [List.size_toArray, List.length_map, hwl]; omega))⟩
      have HFI := Lib.hid (show Bk (w6.setCell ⟨wb, s, none⟩ (.int .u8 ((k : Int) + 1))) wb 56 (arrOf (setL (fun _ => true) (PL 1 fs (k + 1)) 0 wan)) from by
        have h7 := hw6.set s (.int .u8 ((k : Int) + 1))
        rw [PL_succ, setL_snoc]
        simp only [if_true]
        rw [← HS.out, blk_at]
        have e : (arrOf (setL (fun _ => true) (PL 1 fs k) 0 wan)).setIfInBounds s (.int .u8 ((k : Int) + 1)) = arrOf ((setL (fun _ => true) (PL 1 fs k) 0 wan).set s (BitVec.ofNat 8 (1 + k))) := by
          unfold arrOf
          rw [HV.out, List.map_set]
          simp
        rw [e] at h7
        exact h7)
      have HH6 := Lib.hid (h6.besides (X' := fun i => i = wb) (fun i e => .inl (.inl e)))
      have H7 := Lib.hid (HH6.out.kept (Kept.set w6 wb s (.int .u8 ((k : Int) + 1))))
      have HB7 := Lib.hid (HB6.out.setCell (p := ⟨wb, s, none⟩) HL.out (.int .u8 ((k : Int) + 1)))
      clear h6 k6 hw6 hwl hcx HWr
      go_wp2_with fail
      go_roundw
      case rel => exact ⟨k + 1, by omega, by go_num, H7, HFI, HB7⟩
      case measure => (first | (simp [intOf]; done) | (simp [intOf]; omega))
    · obtain rfl : k = n := by omega
      have HSy := Lib.hid (xsync_ok hd.out (fun i e => by have := hw.out.lt; omega) hB.out.size rfl)
      rw [dA_settle 100 ss] at HSy
      obtain ⟨KS, hKS⟩ : ∃ KS, KS = layL 64 (fun _ => true) (PL 1 fs k) 0 zer := ⟨_, rfl⟩
      rw [← hKS] at HSy
      obtain ⟨W1, hW1⟩ : ∃ W1, W1 = setL (fun _ => true) (PL 1 fs k) 0 wan := ⟨_, rfl⟩
      rw [← hW1] at hw
      have HKS := Lib.hid (show KS.length = 16384 ∧ (∀ s, s < 256 → KS.getD (s * 64) 0#8 = W1.getD s 0#8) from by
        refine ⟨by rw [hKS, layL_len 64 256 _ _ _ _ (fun p hp => PL_ok hp) zer_len], ?_⟩
        rw [hKS, hW1]
        exact lay_set _ _ _ _ _ (fun p hp => PL_ok hp) zer_len wan_len zer_wan)
      have HW1 := Lib.hid (show W1.length = 256 from by rw [hW1, setL_len, wan_len])
      obtain ⟨w7, hw7⟩ : ∃ x, x = wr := ⟨_, rfl⟩
      rw [← hw7] at hw hB HSy ⊢
      have HWW := Lib.hid hw.out
      have HBB := Lib.hid hB.out
      clear hd hw hB hKS hW1 hlt hw7 H3 HW3 HB3
      go_wp2_with fail
      refine Calls.mono HSy.out ?_
      rintro e w8 ⟨rfl, h8, k8⟩
      have H8 := Lib.hid h8
      have HB8 := Lib.hid (HBB.out.trans (k8.below HBB.out.size (fun _ e => e.1)))
      have HW8 := Lib.hid (k8.bk HWW.out (fun f => f.2 rfl))
      clear h8 k8 HSy HWW
      go_wp2_with fail
      go_loopw [12] (fun i wr => ∃ j : Nat, j ≤ m ∧ i = .int .i64 j ∧ Hid (DiskX w1.heap.size (fun i => i = wb) wr g (dA KS 100 ss (0 + k) j)) ∧ Hid (Bk wr wb 56 (arrOf (setL (fun i => kp.getD i false) (PL 100 ss j) 0 W1))) ∧ Hid (Below w1.heap.size w1 wr)) (fun i _ => m - (intOf i).toNat)
      case atStart => exact ⟨0, by omega, rfl, H8, HW8, HB8⟩
      case round =>
        obtain ⟨j, hj, rfl, hd, hw, hB⟩ := hrel
        by_cases hlt : j < m
        · have p1 : (0 : Int) ≤ (j : Int) := by omega
          have p2 : (j : Int) < (m : Int) := by omega
          have hsl : j < ss.length := by rw [← HN.out.2.1]; exact hlt
          obtain ⟨ad, rfl, hadb, hcl0⟩ := (HR.out.2.1.below (HB1.out.trans (hB.out.mono HB1.out.size))) j hsl
          have hgd : ss.getD j 0#8 = ss[j] := by rw [List.getD_eq_getElem?_getD, List.getElem?_eq_getElem hsl]; rfl
          obtain ⟨s, hs⟩ : ∃ s : Nat, s = (ss[j]).toNat := ⟨_, rfl⟩
          have hs2 : s < 256 := by rw [hs]; exact (ss[j]).isLt
          have hcl : wr.cell? (ad.add j) = some (.int .u8 (s : Int)) := by rw [hcl0, hs]; rfl
          have q4 : (0 : Int) ≤ (s : Int) := by omega
          have q5 : (s : Int) ≤ 255 := by omega
          have q6 : s < 256 := hs2
          have HS := Lib.hid (show s = (ss.getD j 0#8).toNat from by rw [hgd, hs])
          have HV := Lib.hid (show Value.int .u8 (100 + (j : Int)) = b8 (BitVec.ofNat 8 (100 + j)) from by
            unfold b8 U8
            rw [BitVec.toNat_ofNat]
            congr 1
            omega)
          have HAD := Lib.hid (And.intro hadb hcl)
          clear hgd hs hs2 hcl0 hsl hadb
          by_cases hjp : j < p
          · have hpl : j < kp.length := by rw [← HN.out.2.2]; exact hjp
            obtain ⟨ak, rfl, hakb, hck⟩ := HR.out.2.2 j hpl
            have hkg : kp.getD j false = kp[j] := by rw [List.getD_eq_getElem?_getD, List.getElem?_eq_getElem hpl]; rfl
            unfold boV at hck
            obtain ⟨b, hb⟩ : ∃ b, b = kp[j] := ⟨_, rfl⟩
            rw [← hb] at hck hkg
            have HCK := Lib.hid (And.intro hakb hck)
            have p3 : (j : Int) < (p : Int) := by omega
            clear hb hakb hck hpl
            cases b with
            | true =>
              have HK := Lib.hid hkg
              clear hkg
              go_wp2_with (at_make; refine wp_make (f := b8) one8 rfl _ _ rfl (0#8) rfl wr.heap.size 64 .i64 .i64 64 64 rfl rfl rfl rfl (by decide) (by decide) (Nat.le_refl _) ?_; intro q w4 hq ho hb hg; have HQ := Lib.hid hq; have HO := Lib.hid ho; have HB4 := Lib.hid hb; clear hq ho hb hg; have f0 := HO.out.free 0; have hc0 : w4.cell? ⟨q, 0, none⟩ = some (.int .u8 0) := HO.out.cell (j := 0) (by decide); have hcx : (w4.setCell ⟨q, 0, none⟩ (.int .u8 (100 + (j : Int)))).cell? (ad.add j) = some (.int .u8 (s : Int)) := (World.cell?_setCell_other w4 ⟨q, 0, none⟩ (ad.add j) _ (fun e => by have e2 := congrArg Addr.block e; rw [add_block] at e2; have h1 := HAD.out.1; have h2 := HQ.out; have h3 := hB.out.size; have h4 := HB1.out.size; simp only at e2; omega)).trans ((HB4.out.cell (p := ad.add j) (by rw [add_block]; have h1 := HAD.out.1; have h3 := hB.out.size; have h4 := HB1.out.size; omega)).trans HAD.out.2))
              have hX : Below wr.heap.size wr (w4.setCell ⟨q, 0, none⟩ (.int .u8 (100 + (j : Int)))) := HB4.out.setCell (p := ⟨q, 0, none⟩) (by have := HQ.out; show wr.heap.size ≤ q; omega) _
              have H5 := Lib.hid ((hd.out.besides (X' := fun i => i = wb ∨ i = q) (fun i e => by
                rcases e with e | e
                · exact .inl e
                · have := HQ.out; exact .inr (by omega))).below hX)
              have H5b := Lib.hid (hd.out.below hX)
              have HRB := Lib.hid (show Rd b8 (w4.setCell ⟨q, 0, none⟩ (.int .u8 (100 + (j : Int)))) (w4.setCell ⟨q, 0, none⟩ (.int .u8 (100 + (j : Int)))).heap.size (some ⟨q, 0, none⟩) (blk (BitVec.ofNat 8 (100 + j))) from by rw [HV.out]; exact (HO.out.set (j := 0) (by decide) (BitVec.ofNat 8 (100 + j))).rd2)
              have HQ5 := Lib.hid (show q < (w4.setCell ⟨q, 0, none⟩ (.int .u8 (100 + (j : Int)))).heap.size ∧ wb < (w4.setCell ⟨q, 0, none⟩ (.int .u8 (100 + (j : Int)))).heap.size ∧ wb < q from by
                have h1 := (HO.out.lt q rfl).2
                have h2 := hw.out.lt
                have h3 := HQ.out
                simp
                omega)
              have HBX := Lib.hid hX
              have HWX := Lib.hid (show Bk (w4.setCell ⟨q, 0, none⟩ (.int .u8 (100 + (j : Int)))) wb 56 (arrOf (setL (fun i => kp.getD i false) (PL 100 ss j) 0 W1)) from hw.out.below hX hw.out.lt)
              have HWr := Lib.hid (q3_write H5b.out HQ5.out.2.1 HQ5.out.1 (Nat.le_trans hB.out.size hX.size) (by omega) (by omega) HRB.out H5.out s HS.out)
              clear hX f0 hc0
              refine Calls.mono HWr.out ?_
              rintro e w6 ⟨rfl, h6, k6⟩
              have H6 := Lib.hid (h6.besides (X' := fun i => i = wb) (fun i e => .inl (.inl e)))
              have hcy : w6.cell? (ad.add j) = some (.int .u8 (s : Int)) := (k6.cell (p := ad.add j) (by rw [add_block]; have := HAD.out.1; have := HB1.out.size; have := hB.out.size; have := HBX.out.size; omega) (by rw [add_block]; rintro ⟨f, _⟩; have := HAD.out.1; have := HB1.out.size; omega)).trans hcx
              have hw6 := k6.bk HWX.out (fun f => f.2 (.inl rfl))
              have HB6 := Lib.hid (hB.out.trans ((HBX.out.mono hB.out.size).trans (k6.below (Nat.le_trans hB.out.size HBX.out.size) (fun _ e => e.1))))
              have hck6 : w6.cell? (ak.add j) = some (.bool true) := (k6.cell (p := ak.add j) (by rw [add_block]; have := HCK.out.1; have := HB1.out.size; have := hB.out.size; have := HBX.out.size; omega) (by rw [add_block]; rintro ⟨f, _⟩; have := HCK.out.1; have := HB1.out.size; omega)).trans ((HBX.out.cell (p := ak.add j) (by rw [add_block]; have := HCK.out.1; have := HB1.out.size; have := hB.out.size; omega)).trans ((hB.out.cell (p := ak.add j) (by rw [add_block]; have := HCK.out.1; have := HB1.out.size; omega)).trans ((HB1.out.cell (p := ak.add j) (by rw [add_block]; exact HCK.out.1)).trans HCK.out.2)))
              have hwl : (setL (fun i => kp.getD i false) (PL 100 ss j) 0 W1).length = 256 := by rw [setL_len]; rw [HW1.out]
              have fwb := hw6.free s
              obtain ⟨vo, hvo⟩ : ∃ vo, w6.cell? ⟨wb, s, none⟩ = some vo := ⟨_, (hw6.cell s).trans (Array.getElem?_eq_getElem (by unfold arrOf; rw [List.size_toArray, List.length_map, hwl]; omega))⟩
              have HFI := Lib.hid (show Bk (w6.setCell ⟨wb, s, none⟩ (.int .u8 (100 + (j : Int)))) wb 56 (arrOf (setL (fun i => kp.getD i false) (PL 100 ss (j + 1)) 0 W1)) from by
                have h7 := hw6.set s (.int .u8 (100 + (j : Int)))
                rw [PL_succ, setL_snoc]
                rw [if_pos (show kp.getD (0 + (PL 100 ss j).length) false = true from by rw [PL_len, Nat.zero_add]; exact HK.out)]
                rw [← HS.out, blk_at]
                have e : (arrOf (setL (fun i => kp.getD i false) (PL 100 ss j) 0 W1)).setIfInBounds s (.int .u8 (100 + (j : Int))) = arrOf ((setL (fun i => kp.getD i false) (PL 100 ss j) 0 W1).set s (BitVec.ofNat 8 (100 + j))) := by
                  unfold arrOf
                  rw [HV.out, List.map_set]
                  simp
                rw [e] at h7
                exact h7)
              have HH6 := Lib.hid (h6.besides (X' := fun i => i = wb) (fun i e => .inl (.inl e)))
              have H7 := Lib.hid (HH6.out.kept (Kept.set w6 wb s (.int .u8 (100 + (j : Int)))))
              have HB7 := Lib.hid (HB6.out.setCell (p := ⟨wb, s, none⟩) HL.out (.int .u8 (100 + (j : Int))))
              clear h6 k6 hw6 hwl hcx HWr
              go_wp2_with fail
              go_roundw
              case rel => exact ⟨j + 1, by omega, by go_num, H7, HFI, HB7⟩
              case measure => (first | (simp [intOf]; done) | (simp [intOf]; omega))
            | false =>
              have HK := Lib.hid hkg
              clear hkg
              go_wp2_with (at_make; refine wp_make (f := b8) one8 rfl _ _ rfl (0#8) rfl wr.heap.size 64 .i64 .i64 64 64 rfl rfl rfl rfl (by decide) (by decide) (Nat.le_refl _) ?_; intro q w4 hq ho hb hg; have HQ := Lib.hid hq; have HO := Lib.hid ho; have HB4 := Lib.hid hb; clear hq ho hb hg; have f0 := HO.out.free 0; have hc0 : w4.cell? ⟨q, 0, none⟩ = some (.int .u8 0) := HO.out.cell (j := 0) (by decide); have hcx : (w4.setCell ⟨q, 0, none⟩ (.int .u8 (100 + (j : Int)))).cell? (ad.add j) = some (.int .u8 (s : Int)) := (World.cell?_setCell_other w4 ⟨q, 0, none⟩ (ad.add j) _ (fun e => by have e2 := congrArg Addr.block e; rw [add_block] at e2; have h1 := HAD.out.1; have h2 := HQ.out; have h3 := hB.out.size; have h4 := HB1.out.size; simp only at e2; omega)).trans ((HB4.out.cell (p := ad.add j) (by rw [add_block]; have h1 := HAD.out.1; have h3 := hB.out.size; have h4 := HB1.out.size; omega)).trans HAD.out.2))
              have hX : Below wr.heap.size wr (w4.setCell ⟨q, 0, none⟩ (.int .u8 (100 + (j : Int)))) := HB4.out.setCell (p := ⟨q, 0, none⟩) (by have := HQ.out; show wr.heap.size ≤ q; omega) _
              have H5 := Lib.hid ((hd.out.besides (X' := fun i => i = wb ∨ i = q) (fun i e => by
                rcases e with e | e
                · exact .inl e
                · have := HQ.out; exact .inr (by omega))).below hX)
              have H5b := Lib.hid (hd.out.below hX)
              have HRB := Lib.hid (show Rd b8 (w4.setCell ⟨q, 0, none⟩ (.int .u8 (100 + (j : Int)))) (w4.setCell ⟨q, 0, none⟩ (.int .u8 (100 + (j : Int)))).heap.size (some ⟨q, 0, none⟩) (blk (BitVec.ofNat 8 (100 + j))) from by rw [HV.out]; exact (HO.out.set (j := 0) (by decide) (BitVec.ofNat 8 (100 + j))).rd2)
              have HQ5 := Lib.hid (show q < (w4.setCell ⟨q, 0, none⟩ (.int .u8 (100 + (j : Int)))).heap.size ∧ wb < (w4.setCell ⟨q, 0, none⟩ (.int .u8 (100 + (j : Int)))).heap.size ∧ wb < q from by
                have h1 := (HO.out.lt q rfl).2
                have h2 := hw.out.lt
                have h3 := HQ.out
                simp
                omega)
              have HBX := Lib.hid hX
              have HWX := Lib.hid (show Bk (w4.setCell ⟨q, 0, none⟩ (.int .u8 (100 + (j : Int)))) wb 56 (arrOf (setL (fun i => kp.getD i false) (PL 100 ss j) 0 W1)) from hw.out.below hX hw.out.lt)
              have HWr := Lib.hid (q3_write H5b.out HQ5.out.2.1 HQ5.out.1 (Nat.le_trans hB.out.size hX.size) (by omega) (by omega) HRB.out H5.out s HS.out)
              clear hX f0 hc0
              refine Calls.mono HWr.out ?_
              rintro e w6 ⟨rfl, h6, k6⟩
              have H6 := Lib.hid (h6.besides (X' := fun i => i = wb) (fun i e => .inl (.inl e)))
              have hcy : w6.cell? (ad.add j) = some (.int .u8 (s : Int)) := (k6.cell (p := ad.add j) (by rw [add_block]; have := HAD.out.1; have := HB1.out.size; have := hB.out.size; have := HBX.out.size; omega) (by rw [add_block]; rintro ⟨f, _⟩; have := HAD.out.1; have := HB1.out.size; omega)).trans hcx
              have hw6 := k6.bk HWX.out (fun f => f.2 (.inl rfl))
              have HB6 := Lib.hid (hB.out.trans ((HBX.out.mono hB.out.size).trans (k6.below (Nat.le_trans hB.out.size HBX.out.size) (fun _ e => e.1))))
              have hck6 : w6.cell? (ak.add j) = some (.bool false) := (k6.cell (p := ak.add j) (by rw [add_block]; have := HCK.out.1; have := HB1.out.size; have := hB.out.size; have := HBX.out.size; omega) (by rw [add_block]; rintro ⟨f, _⟩; have := HCK.out.1; have := HB1.out.size; omega)).trans ((HBX.out.cell (p := ak.add j) (by rw [add_block]; have := HCK.out.1; have := HB1.out.size; have := hB.out.size; omega)).trans ((hB.out.cell (p := ak.add j) (by rw [add_block]; have := HCK.out.1; have := HB1.out.size; omega)).trans ((HB1.out.cell (p := ak.add j) (by rw [add_block]; exact HCK.out.1)).trans HCK.out.2)))
              have HFI := Lib.hid (show Bk w6 wb 56 (arrOf (setL (fun i => kp.getD i false) (PL 100 ss (j + 1)) 0 W1)) from by
                rw [PL_succ, setL_snoc, if_neg (show ¬ kp.getD (0 + (PL 100 ss j).length) false = true from by rw [PL_len, Nat.zero_add, HK.out]; decide)]
                exact hw6)
              have HH6 := Lib.hid (h6.besides (X' := fun i => i = wb) (fun i e => .inl (.inl e)))
              clear h6 k6 hw6 hcx HWr
              go_wp2_with fail
              go_roundw
              case rel => exact ⟨j + 1, by omega, by go_num, HH6, HFI, HB6⟩
              case measure => (first | (simp [intOf]; done) | (simp [intOf]; omega))
          · have HK := Lib.hid (show kp.getD j false = false from by rw [List.getD_eq_getElem?_getD, List.getElem?_eq_none (by rw [← HN.out.2.2]; omega)]; rfl)
            have t4 : decide ((j : Int) < (p : Int)) = false := by simp; omega
            go_wp2_with (at_make; refine wp_make (f := b8) one8 rfl _ _ rfl (0#8) rfl wr.heap.size 64 .i64 .i64 64 64 rfl rfl rfl rfl (by decide) (by decide) (Nat.le_refl _) ?_; intro q w4 hq ho hb hg; have HQ := Lib.hid hq; have HO := Lib.hid ho; have HB4 := Lib.hid hb; clear hq ho hb hg; have f0 := HO.out.free 0; have hc0 : w4.cell? ⟨q, 0, none⟩ = some (.int .u8 0) := HO.out.cell (j := 0) (by decide); have hcx : (w4.setCell ⟨q, 0, none⟩ (.int .u8 (100 + (j : Int)))).cell? (ad.add j) = some (.int .u8 (s : Int)) := (World.cell?_setCell_other w4 ⟨q, 0, none⟩ (ad.add j) _ (fun e => by have e2 := congrArg Addr.block e; rw [add_block] at e2; have h1 := HAD.out.1; have h2 := HQ.out; have h3 := hB.out.size; have h4 := HB1.out.size; simp only at e2; omega)).trans ((HB4.out.cell (p := ad.add j) (by rw [add_block]; have h1 := HAD.out.1; have h3 := hB.out.size; have h4 := HB1.out.size; omega)).trans HAD.out.2))
            have hX : Below wr.heap.size wr (w4.setCell ⟨q, 0, none⟩ (.int .u8 (100 + (j : Int)))) := HB4.out.setCell (p := ⟨q, 0, none⟩) (by have := HQ.out; show wr.heap.size ≤ q; omega) _
            have H5 := Lib.hid ((hd.out.besides (X' := fun i => i = wb ∨ i = q) (fun i e => by
              rcases e with e | e
              · exact .inl e
              · have := HQ.out; exact .inr (by omega))).below hX)
            have H5b := Lib.hid (hd.out.below hX)
            have HRB := Lib.hid (show Rd b8 (w4.setCell ⟨q, 0, none⟩ (.int .u8 (100 + (j : Int)))) (w4.setCell ⟨q, 0, none⟩ (.int .u8 (100 + (j : Int)))).heap.size (some ⟨q, 0, none⟩) (blk (BitVec.ofNat 8 (100 + j))) from by rw [HV.out]; exact (HO.out.set (j := 0) (by decide) (BitVec.ofNat 8 (100 + j))).rd2)
            have HQ5 := Lib.hid (show q < (w4.setCell ⟨q, 0, none⟩ (.int .u8 (100 + (j : Int)))).heap.size ∧ wb < (w4.setCell ⟨q, 0, none⟩ (.int .u8 (100 + (j : Int)))).heap.size ∧ wb < q from by
              have h1 := (HO.out.lt q rfl).2
              have h2 := hw.out.lt
              have h3 := HQ.out
              simp
              omega)
            have HBX := Lib.hid hX
            have HWX := Lib.hid (show Bk (w4.setCell ⟨q, 0, none⟩ (.int .u8 (100 + (j : Int)))) wb 56 (arrOf (setL (fun i => kp.getD i false) (PL 100 ss j) 0 W1)) from hw.out.below hX hw.out.lt)
            have HWr := Lib.hid (q3_write H5b.out HQ5.out.2.1 HQ5.out.1 (Nat.le_trans hB.out.size hX.size) (by omega) (by omega) HRB.out H5.out s HS.out)
            clear hX f0 hc0
            refine Calls.mono HWr.out ?_
            rintro e w6 ⟨rfl, h6, k6⟩
            have H6 := Lib.hid (h6.besides (X' := fun i => i = wb) (fun i e => .inl (.inl e)))
            have hcy : w6.cell? (ad.add j) = some (.int .u8 (s : Int)) := (k6.cell (p := ad.add j) (by rw [add_block]; have := HAD.out.1; have := HB1.out.size; have := hB.out.size; have := HBX.out.size; omega) (by rw [add_block]; rintro ⟨f, _⟩; have := HAD.out.1; have := HB1.out.size; omega)).trans hcx
            have hw6 := k6.bk HWX.out (fun f => f.2 (.inl rfl))
            have HB6 := Lib.hid (hB.out.trans ((HBX.out.mono hB.out.size).trans (k6.below (Nat.le_trans hB.out.size HBX.out.size) (fun _ e => e.1))))
            have HFI := Lib.hid (show Bk w6 wb 56 (arrOf (setL (fun i => kp.getD i false) (PL 100 ss (j + 1)) 0 W1)) from by
              rw [PL_succ, setL_snoc, if_neg (show ¬ kp.getD (0 + (PL 100 ss j).length) false = true from by rw [PL_len, Nat.zero_add, HK.out]; decide)]
              exact hw6)
            have HH6 := Lib.hid (h6.besides (X' := fun i => i = wb) (fun i e => .inl (.inl e)))
            clear h6 k6 hw6 hcx HWr
            go_wp2_with fail
            go_roundw
            case rel => exact ⟨j + 1, by omega, by go_num, HH6, HFI, HB6⟩
            case measure => (first | (simp [intOf]; done) | (simp [intOf]; omega))
        · obtain rfl : j = m := by omega
          have hdl : ∀ a, D = some a → a.block < w1.heap.size := HDB.out
          have HCu := Lib.hid (xcut_c hd.out (fun i e => by have := hw.out.lt; omega) hB.out.size D kp cd (((HR.out.2.2.below (HB1.out.trans (hB.out.mono HB1.out.size)))).more (Nat.le_trans HB1.out.size hB.out.size)) (fun a e => .inl (hdl a e)) (by have := HN.out.2.2; omega))
          rw [← HN.out.2.2] at HCu
          obtain ⟨w9, hw9⟩ : ∃ x, x = wr := ⟨_, rfl⟩
          rw [← hw9] at hw hB HCu ⊢
          have HWW := Lib.hid hw.out
          have HBB2 := Lib.hid hB.out
          clear hd hw hB hlt hw9 hdl
          go_wp2_with fail
          refine Calls.mono HCu.out ?_
          rintro e w10 ⟨rfl, h10, k10⟩
          have H10 := Lib.hid h10
          have HB10 := Lib.hid (HBB2.out.trans (k10.below HBB2.out.size (fun _ e => e.1)))
          have HW10 := Lib.hid (k10.bk HWW.out (fun f => f.2 rfl))
          clear h10 k10 HCu HWW
          go_wp2_with fail
          refine Calls.mono (xon_c H10.out (fun i e => by have := HW10.out.lt; omega) HB10.out.size) ?_
          rintro e w11 ⟨rfl, h11, k11⟩
          have H11 := Lib.hid h11
          have HB11 := Lib.hid (HB10.out.trans (k11.below HB10.out.size (fun _ e => e.1)))
          have HW11 := Lib.hid (k11.bk HW10.out (fun f => f.2 rfl))
          have HFin := Lib.hid (lay_set (fun i => kp.getD i false) (PL 100 ss j) 0 KS W1 (fun p hp => PL_ok hp) HKS.out.1 HW1.out HKS.out.2)
          have hwl : (setL (fun i => kp.getD i false) (PL 100 ss j) 0 W1).length = 256 := by rw [setL_len, HW1.out]
          obtain ⟨W2, hW2⟩ : ∃ W2, W2 = setL (fun i => kp.getD i false) (PL 100 ss j) 0 W1 := ⟨_, rfl⟩
          rw [← hW2] at HW11 HFin hwl
          have HWL := Lib.hid hwl
          have HD3 := Lib.hid (show ∀ s, ((dA KS 100 ss (0 + k) j).cut kp).on.pend = [] ∧ ((dA KS 100 ss (0 + k) j).cut kp).on.off = false ∧ ((dA KS 100 ss (0 + k) j).cut kp).on.secs = 256 ∧ ((dA KS 100 ss (0 + k) j).cut kp).on.size = 64 ∧ curL ((dA KS 100 ss (0 + k) j).cut kp).on s = ((layL 64 (fun i => kp.getD i false) (PL 100 ss j) 0 KS).drop (s * 64)).take 64 from fun s => ⟨rfl, rfl, rfl, rfl, by unfold curL; rw [if_pos (show newF ((dA KS 100 ss (0 + k) j).cut kp).on.pend (s : Int) = 0 from rfl)]; rfl⟩)
          obtain ⟨d3, hd3⟩ : ∃ d, d = ((dA KS 100 ss (0 + k) j).cut kp).on := ⟨_, rfl⟩
          rw [← hd3] at HD3 H11
          clear h11 k11 hW2 hwl hd3 H10 HW10 H8 HW8 HB8
          go_wp2_with fail
          go_loopw [14] (fun i wr => ∃ r : Nat, r ≤ 256 ∧ i = .int .i64 r ∧ Hid (Below w11.heap.size w11 wr)) (fun i _ => 256 - (intOf i).toNat)
          case atStart => exact ⟨0, by omega, rfl, Lib.hid (Below.refl _ _)⟩
          case round =>
            obtain ⟨r, hr, rfl, hB⟩ := hrel
            by_cases hlt : r < 256
            · have p1 : (0 : Int) ≤ (r : Int) := by omega
              have p2 : (r : Int) < 256 := by omega
              have hx := H11.out.below hB.out
              have hrd := xread_ok hx r (HD3.out r).2.1 (by rw [(HD3.out r).2.2.1]; exact hlt)
              have hcl := hx.curLen (s := r) (by rw [(HD3.out r).2.2.1]; exact hlt)
              rw [(HD3.out r).2.2.2.1] at hcl
              rw [(HD3.out r).2.2.2.2] at hrd hcl
              obtain ⟨xs, hxs⟩ : ∃ xs, xs = ((layL 64 (fun i => kp.getD i false) (PL 100 ss j) 0 KS).drop (r * 64)).take 64 := ⟨_, rfl⟩
              rw [← hxs] at hrd hcl
              have hx0 : xs[0]? = some (W2.getD r 0#8) := by
                rw [← HFin.out r hlt, List.getD_eq_getElem?_getD]
                have h0 : 0 < xs.length := by omega
                rw [List.getElem?_eq_getElem h0]
                have e2 : xs[0]? = (layL 64 (fun i => kp.getD i false) (PL 100 ss j) 0 KS)[r * 64]? := by
                  rw [hxs, List.getElem?_take_of_lt (by omega), List.getElem?_drop, Nat.add_zero]
                rw [List.getElem?_eq_getElem h0] at e2
                rw [← e2]
                rfl
              obtain ⟨y, hy⟩ : ∃ y, y = W2.getD r 0#8 := ⟨_, rfl⟩
              rw [← hy] at hx0
              obtain ⟨z, hz⟩ : ∃ z : Int, b8 y = .int .u8 z := ⟨U8 y, rfl⟩
              unfold NewQ at hrd
              rw [hcl] at hrd
              have HRD := Lib.hid hrd
              have hwc : wr.cell? ⟨wb, r, none⟩ = some (.int .u8 z) := by
                have h1 := (HW11.out.below hB.out HW11.out.lt).cell r
                rw [h1, ← hz, hy]
                unfold arrOf
                have hl2 : r < W2.length := by rw [HWL.out]; exact hlt
                simp [List.getElem?_eq_getElem hl2, List.getD_eq_getElem?_getD]
              have HX0 := Lib.hid (And.intro hx0 (And.intro hcl (And.intro hz hwc)))
              have HWB := Lib.hid (show wb < wr.heap.size from Nat.lt_of_lt_of_le HW11.out.lt hB.out.size)
              clear hx hrd hcl hxs hx0 hy hz hwc
              go_wp2_with fail
              refine Calls.mono HRD.out ?_
              rintro e w12 ⟨A12, c12, rfl, hc12, ho12, hb12⟩
              obtain ⟨qa, rfl, hca, hqa⟩ := at0 ho12 HX0.out.2.1 y HX0.out.1
              rw [HX0.out.2.2.1] at hca
              have hwc2 := (hb12.cell (p := ⟨wb, r, none⟩) HWB.out).trans HX0.out.2.2.2
              have HB12 := Lib.hid (hB.out.trans (hb12.mono hB.out.size))
              have HReg := Lib.hid (fun Q a0 => sy_reg Q a0 w12 qa wb c12 r z hqa (Nat.lt_of_lt_of_le HWB.out hb12.size) hca hwc2 p1 p2 hlt)
              clear hc12 ho12 hb12 hca hqa hwc2
              go_wp2_with fail
              refine HReg.out _ _ rfl rfl rfl rfl rfl ?_
              intro vals w13 hG h131
              unfold IsV at h131
              simp only [putD, Act.put, List.setIfInBounds_toArray, List.set_cons_zero, List.set_cons_succ, h131]
              have HB13 := Lib.hid (HB12.out.trans (hG.mono HB12.out.size))
              clear hG h131
              go_wp2_with fail
              go_roundw
              case rel => exact ⟨r + 1, by omega, by go_num, HB13⟩
              case measure => (first | (simp [intOf]; done) | (simp [intOf]; omega))
            · obtain rfl : r = 256 := by omega
              go_wp2_with fail
              go_ret
              exact ⟨rfl, HB1.out.trans ((HB11.out.trans (hB.out.mono HB11.out.size)).mono HB1.out.size)⟩
theorem syncs_out (w : World) (A B C : Option Addr) (a b c ca cb cc : Nat) (h : 40 < a ∨ 40 < b ∨ 100 < c) (ha : a ≤ maxLen) (hb : b ≤ maxLen) (hc : c ≤ maxLen) : Calls Try.prog 5 #[.slice A a ca, .slice B b cb, .slice C c cc] w (TruP (.bool true) w) := by
  obtain ⟨r1, t1⟩ : ∃ r, decide ((40 : Int) < (a : Int)) = r := ⟨_, rfl⟩
  obtain ⟨r2, t2⟩ : ∃ r, decide ((40 : Int) < (b : Int)) = r := ⟨_, rfl⟩
  obtain ⟨r3, t3⟩ : ∃ r, decide ((100 : Int) < (c : Int)) = r := ⟨_, rfl⟩
  have hr : (r1 || (r2 || r3)) = true := by rw [← t1, ← t2, ← t3]; simp; omega
  clear h ha hb hc
  cases r1 <;> cases r2 <;> cases r3 <;> first | (exact absurd hr (by decide)) | skip
  all_goals
    clear hr
    go_enter Try.func5, Try.ntmps5
    go_wp2_with fail
    refine Calls.mono (known3_c w) ?_
    rintro e w1 ⟨rfl, b1⟩
    have HB := Lib.hid b1
    clear b1
    go_wp2_with fail
    go_ret
    exact ⟨rfl, HB.out⟩
theorem syncs_walk (w : World) (A : Option Addr) (fs : List (BitVec 8)) (ca : Nat) (g1 : fs.length ≤ ca) (m1 : ca ≤ maxLen) (hr1 : Rd b8 w w.heap.size A fs) (B : Option Addr) (ss : List (BitVec 8)) (cb : Nat) (g2 : ss.length ≤ cb) (m2 : cb ≤ maxLen) (hr2 : Rd b8 w w.heap.size B ss)
    (C : Option Addr) (kp : List Bool) (cc : Nat) (g3 : kp.length ≤ cc) (m3 : cc ≤ maxLen) (hr3 : Rd boZ w w.heap.size C kp ∧ ∀ a, C = some a → a.block < w.heap.size) : Calls Try.prog 5 #[.slice A fs.length ca, .slice B ss.length cb, .slice C kp.length cc] w (TruP (.bool true) w) := by
  by_cases h : 40 < fs.length ∨ 40 < ss.length ∨ 100 < kp.length
  · exact syncs_out w A B C _ _ _ ca cb cc h (Nat.le_trans g1 m1) (Nat.le_trans g2 m2) (Nat.le_trans g3 m3)
  · exact syncs_in w A B C fs ss kp ca cb cc (by omega) (by omega) (by omega) hr1 hr2 hr3.1 hr3.2
end Go.Proofs.Ytfcbmdmkdjaoaaa
namespace Go.Proofs.Ytfcbmdmkdjaoaaa.diskSyncs
open Go.ChangeShapes Go.WideShapes Go.ChangeAt Go.RowKit
open Go.ChangeMaps (open_string shut_string)
set_option linter.unusedVariables false
set_option maxRecDepth 100000 in
theorem lifted (os : Os) (started : os.Started) (H : Type) (enc : TypeId × Value → H) :
    ReturnsInHanded {} Try.checked os 5 .any (Rows.diskSyncsSpec.pre6 enc Try.prog Try.f5 Rows.diskSyncsRow.domain false) (Rows.diskSyncsSpec.post enc Try.prog Try.f5 false true false false) := by
  refine returnsInHanded_of_change (C := Try.checked) own started (by kernel_rfl) Try.func5
    (ChangeSpec.witness6 (enc := enc) (C := Try.checked) false ⟨#[], #[.slice none 0 0, .slice none 0 0, .slice none 0 0], []⟩ 8 (by kernel_rfl) (by kernel_rfl) (by kernel_rfl) (by kernel_rfl)) ?_
  intro W base args ds gs before hval0 hW hcnd _
  have hval : ∀ (j : Nat) t v, Try.f5.params[j]? = some t → args[j]? = some v → Value.okWide Try.prog W .any base t v := hval0
  have hW' := hW
  obtain ⟨p, q, hA0, hV, rfl, hfz, hnd⟩ := hW
  have hA : DataW.TrodAll enc Try.prog W 0 (fun _ => true) true Try.f5.params.toList args.toList ds p := hA0
  rw [Try.params5] at hA hval
  obtain ⟨v0, vs0, d0, ds0, p0, q0, hargs, rfl, rfl, h0, r0⟩ := trodAll_cons hA
  obtain ⟨v1, vs1, d1, ds1, p1, q1, rfl, rfl, rfl, h1, r1⟩ := trodAll_cons r0
  obtain ⟨v2, vs2, d2, ds2, p2, q2, rfl, rfl, rfl, h2, r2⟩ := trodAll_cons r1
  obtain ⟨rfl, rfl, rfl⟩ := trodAll_nil r2
  obtain rfl : args = #[v0, v1, v2] := by cases args; simp_all
  obtain ⟨rfl, rfl⟩ := trodVars_none hV
  have k0 := h0
  have lt0 : ∀ x ∈ p0, x.block < W.heap.size := by obtain ⟨m, hm⟩ := k0; exact DataW.trod_lt m _ _ _ hm
  obtain ⟨A0, a0, c0, e0v, g0, m0, w0⟩ := open_bytes Try.underlying34 Try.underlying5 (by kernel_rfl) (hval 0 34 v0 rfl rfl) h0; subst e0v
  have k1 := h1
  have lt1 : ∀ x ∈ p1, x.block < W.heap.size := by obtain ⟨m, hm⟩ := k1; exact DataW.trod_lt m _ _ _ hm
  obtain ⟨A1, a1, c1, e1v, g1, m1, w1⟩ := open_bytes Try.underlying34 Try.underlying5 (by kernel_rfl) (hval 1 34 v1 rfl rfl) h1; subst e1v
  have k2 := h2
  have lt2 : ∀ x ∈ p2, x.block < W.heap.size := by obtain ⟨m, hm⟩ := k2; exact DataW.trod_lt m _ _ _ hm
  obtain ⟨A2, a2, c2, e2v, g2, m2, w2⟩ := open_bools Try.underlying31 Try.underlying4 (by kernel_rfl) (hval 2 31 v2 rfl rfl) h2; subst e2v
  clear hA0 hval0
  refine (syncs_walk W A0 a0 c0 g0 m0 w0 A1 a1 c1 g1 m1 w1 A2 a2 c2 g2 m2 w2).mono fun e W' ⟨he, bel⟩ => ?_
  subst he
  exact ⟨_, rfl, _, _, _, [], _, [], hW', trodAll_mk1 (shut_bool Try.underlying4 _), (trodAll_cons_mk (Below.trod laidOut (by kernel_rfl) (of_decide_eq_true (by kernel_rfl)) k0 bel lt0) (trodAll_cons_mk (Below.trod laidOut (by kernel_rfl) (of_decide_eq_true (by kernel_rfl)) k1 bel lt1) (trodAll_cons_mk (Below.trod laidOut (by kernel_rfl) (of_decide_eq_true (by kernel_rfl)) k2 bel lt2) trodAll_mk0))), rfl, bel.frame _, fun h => by cases h⟩
theorem over : Rows.diskSyncsRow.holds Try.pinned (OpenSpec.ofChange Rows.diskSyncsSpec) :=
  OpenClaim.holds_of_wide 5 Try.f5 rfl rfl rfl rfl rfl rfl rfl ⟨rfl, rfl, rfl, rfl, rfl⟩ rfl rfl rfl rfl rfl (by kernel_rfl) Try.func5 (by kernel_rfl)
    (of_decide_eq_true (by kernel_rfl)) (by unfold Func.isWrapper; first | (rw [if_pos (by decide +kernel)]; kernel_rfl) | (rw [if_neg (by decide +kernel)]; exact ⟨rfl, rfl⟩))
    (fun os started H enc _ => lifted os started H enc)
theorem proved : Rows.DiskSyncsSaid := over
end Go.Proofs.Ytfcbmdmkdjaoaaa.diskSyncs
