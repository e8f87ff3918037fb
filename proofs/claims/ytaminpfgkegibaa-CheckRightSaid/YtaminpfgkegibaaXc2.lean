/- Texts joined: CkA CkB CkC CkD CkE NmX NmC NmD. -/
import Derived.Test.YtaminpfgkegibaaXc1
import Derived.Test.YtaminpfgkegibaaBitsB
import Derived.Test.YtaminpfgkegibaaStr
import Derived.Test.YtaminpfgkegibaaChecked
import Derived.Maps.Ext
import Derived.DeepKeys5
import Derived.Test.YtaminpfgkegibaaRegT
import Derived.Lib.BytesEntry
import Derived.Lib.BufferWrite
import Derived.Laws.Rows
import Derived.Laws.Tables
import Derived.OwnWalk
/- What check.look makes, in memory; tell. Conditions: lengths. -/
namespace Go.Proofs.Ytaminpfgkegibaa
set_option linter.unusedVariables false
set_option linter.unusedSimpArgs false
open Go.RowKit Go.Maps
set_option maxHeartbeats 2000000
set_option maxRecDepth 100000
theorem Bk.grownK {w w' : World} {g : Nat} {E : TypeId} {cs : Array Value} {row : Option Nat} (h : Bk w g E cs) (hg : w.grownBy w' row) (hne : some g ≠ row) : Bk w' g E cs := (hg.block g h.lt hne).trans h
def sizR (ws : List (BitVec 64)) (p : List Nat) : List (Int × Int) := p.map fun a : Nat => ((a : Int), (szX (ws.getD a 0#64) : Int))
/-- A looked in memory. -/
structure LkAt (W : World) (B Xb sv mb : Nat) (rv lv : Value) (ws : List (BitVec 64)) (p : List Nat) (fs : List (Nat × ByteArray)) : Prop where
  blk : Bk W Xb 72 #[.pointer (some ⟨sv, 0, none⟩), rv, .map (some mb), lv]
  row : Ow iN 3 W B rv p
  mp : MapIs W (some mb) (sizR ws p)
  fr : FR W B lv fs
  ne : Xb ≠ mb
  ap : ∀ k, (k = Xb ∨ k = mb) → rv.ownBlock ≠ some k ∧ lv.ownBlock ≠ some k
  ap2 : ∀ k, rv.ownBlock = some k → lv.ownBlock ≠ some k
  BX : B ≤ Xb ∧ B ≤ mb
section
variable {W W' : World} {B Xb sv mb : Nat} {rv lv : Value} {ws : List (BitVec 64)} {p : List Nat} {fs : List (Nat × ByteArray)}
theorem LkAt.below (h : LkAt W B Xb sv mb rv lv ws p fs) (hb : Below W.heap.size W W') : LkAt W' B Xb sv mb rv lv ws p fs :=
  ⟨h.blk.below hb h.blk.lt, h.row.below hb, h.mp.kept (Kept.of_below hb (fun _ => False)) (fun _ _ f => f), h.fr.below hb, h.ne, h.ap, h.ap2, h.BX⟩
theorem LkAt.lts (h : LkAt W B Xb sv mb rv lv ws p fs) : Xb < W.heap.size ∧ mb < W.heap.size ∧ (∀ k, rv.ownBlock = some k → B ≤ k ∧ k < W.heap.size) ∧ (∀ k, lv.ownBlock = some k → B ≤ k ∧ k < W.heap.size) ∧ B ≤ W.heap.size := by
  have h1 := h.blk.lt
  have h2 := h.BX
  exact ⟨h1, h.mp.lt mb rfl, fun k hk => h.row.lt k hk, fun k hk => h.fr.lt k hk, by omega⟩
theorem LkAt.four (h : LkAt W B Xb sv mb rv lv ws p fs) : W.cell? ⟨Xb, 0, none⟩ = some (.pointer (some ⟨sv, 0, none⟩)) ∧ W.cell? ⟨Xb, 1, none⟩ = some rv ∧ W.cell? ⟨Xb, 2, none⟩ = some (.map (some mb)) ∧ W.cell? ⟨Xb, 3, none⟩ = some lv := ⟨h.blk.cell 0, h.blk.cell 1, h.blk.cell 2, h.blk.cell 3⟩
def TellP (w : World) (B Xb sv mb : Nat) (rv lv : Value) (ws : List (BitVec 64)) (p : List Nat) (fs : List (Nat × ByteArray)) (r : Ending) (w' : World) : Prop :=
  r = .returned (.tuple #[]) ∧ ∃ lv', LkAt w' B Xb sv mb rv lv' ws p fs ∧ Kept (fun k => k = Xb ∨ lv.ownBlock = some k) w w' ∧ ∀ k, lv'.ownBlock = some k → lv.ownBlock = some k ∨ w.heap.size ≤ k
theorem tell_c (w : World) (h : LkAt w B Xb sv mb rv lv ws p fs) (hl : fs.length ≤ 10000) (a : Nat) (s : ByteArray) :
    Calls Try.prog 49 #[.pointer (some ⟨Xb, 0, none⟩), .int .i64 (a : Int), .string s] w (TellP w B Xb sv mb rv lv ws p (fs ++ [(a, s)])) := by
  obtain ⟨c0, c1, c2, c3⟩ := h.four
  have hX := h.blk.lt
  have H := Lib.hid h
  have HL := Lib.hid (show fs.length + [(a, s)].length ≤ 100000 by simp; omega)
  have HB := Lib.hid h.lts.2.2.2.2
  obtain ⟨lA, lc, e, _⟩ := h.fr.slice_
  obtain ⟨nf, hnf⟩ : ∃ n, n = fs.length := ⟨_, rfl⟩
  rw [← hnf] at e
  subst e
  clear h hl hnf
  go_enter Try.func49, Try.ntmps49
  go_wp2_with (at_builtin; refine wp_appF rfl (.tmp 10) (.tmp 14) rfl rfl (H.out.fr.below (Gw.alloc w _)) (some ⟨w.heap.size, 0, none⟩) 1 1 [(a, s)] rfl rfl (rdF_new w a s) HL.out (Nat.le_trans HB.out (Gw.alloc w _).size) ?_; intro v6 w6 ho6 hb6 hg6 hv6; obtain ⟨A6, c6, e6, _⟩ := ho6.slice_; obtain ⟨n6, hn6⟩ : ∃ n, n = (fs ++ [(a, s)]).length := ⟨_, rfl⟩; rw [← hn6] at e6; subst e6; clear hn6; have hk6 := (H.out.blk.alloc (.cells #[.int .i64 (a : Int), .string s] 55)).grownK hg6 (fun e => (H.out.ap Xb (.inl rfl)).2 e.symm); have HK := Lib.hid (And.intro ho6 (And.intro (show World.grownBy (w.alloc (.cells #[.int .i64 (a : Int), .string s] 55)) w6 (Value.slice lA nf lc).ownBlock from hg6) (And.intro (show (Value.slice A6 n6 c6).ownBlock = (Value.slice lA nf lc).ownBlock ∨ (Value.slice A6 n6 c6).ownBlock = some (w.alloc (.cells #[.int .i64 (a : Int), .string s] 55)).heap.size from hv6) hk6))); have j3 := hk6.cell 3; have jf := hk6.free 3; have jX := hk6.lt; clear ho6 hb6 hg6 hv6 hk6 c0 c1 c2 c3)
  go_end0
  obtain ⟨ho6, hg6, hv6, hk6⟩ := HK.out
  obtain ⟨l1, l2, l3, l4, l5⟩ := H.out.lts
  have e1 : (w.alloc (.cells #[.int .i64 (a : Int), .string s] 55)).heap.size = w.heap.size + 1 := by unfold World.alloc; simp
  have KA := Kept.alloc (fun k => k = Xb ∨ (Value.slice lA nf lc).ownBlock = some k) w (.cells #[.int .i64 (a : Int), .string s] 55)
  have K1 := Kept.grown hg6
  have K2 := Kept.set w6 Xb 3 (.slice A6 n6 c6)
  have hA := H.out.below (Gw.alloc w (.cells #[.int .i64 (a : Int), .string s] 55))
  have a1 := H.out.ap Xb (.inl rfl)
  have a2 := H.out.ap mb (.inr rfl)
  have m6 : ∀ k, (Value.slice A6 n6 c6).ownBlock = some k → (Value.slice lA nf lc).ownBlock = some k ∨ k = w.heap.size + 1 := fun k hk => by
    rcases hv6 with e | e
    · exact .inl (e ▸ hk)
    · rw [e] at hk
      injection hk with hk
      exact .inr (by omega)
  refine ⟨rfl, .slice A6 n6 c6, ⟨hk6.set 3 (.slice A6 n6 c6), K2.ow (K1.ow hA.row (fun k hk e => H.out.ap2 k hk e)) (fun k hk e => a1.1 (e ▸ hk)), (hA.mp.kept K1 (fun b hb e => by injection hb with hb; exact a2.2 (hb ▸ e))).kept K2 (fun b hb e => by injection hb with hb; exact H.out.ne (e.symm.trans hb.symm)), ho6.kept K2 (fun k hk e => ?_), H.out.ne, fun k hk => ⟨(H.out.ap k hk).1, fun e => ?_⟩, fun k hk e => ?_, H.out.BX⟩, (KA.trans (K1.more fun k hk => .inr hk)).trans (K2.more fun k hk => .inl hk), fun k hk => (m6 k hk).imp id (fun h => by omega)⟩
  · rcases m6 k hk with h | h
    · exact a1.2 (e ▸ h)
    · omega
  · rcases m6 k e with h | h
    · exact (H.out.ap k hk).2 h
    · rcases hk with hk | hk <;> omega
  · rcases m6 k e with h | h
    · exact H.out.ap2 k hk h
    · have := (l3 k hk).2; omega
end
end Go.Proofs.Ytaminpfgkegibaa
/- check.looked: leads. Conditions: right places. -/
namespace Go.Proofs.Ytaminpfgkegibaa
set_option linter.unusedVariables false
set_option linter.unusedSimpArgs false
open Go.RowKit Go.Maps
set_option maxHeartbeats 2000000
set_option maxRecDepth 100000
theorem siz_look (ws : List (BitVec 64)) : ∀ (p : List Nat) (a : Nat), lookI (sizR ws p) (a : Int) = if a ∈ p then some (szX (ws.getD a 0#64) : Int) else none
  | [], a => rfl
  | x :: p, a => by
    show (if ((x : Nat) : Int) = (a : Int) then some (szX (ws.getD x 0#64) : Int) else lookI (sizR ws p) (a : Int)) = _
    by_cases e : x = a
    · subst e
      rw [if_pos rfl, if_pos (by simp)]
    · rw [if_neg (by omega), siz_look ws p a]
      by_cases h : a ∈ p
      · rw [if_pos h, if_pos (by simp [h])]
      · rw [if_neg h, if_neg (by simp [h]; exact fun h => e h.symm)]
theorem siz_neg (ws : List (BitVec 64)) (p : List Nat) (z : Int) (hz : z < 0) : lookI (sizR ws p) z = none := by
  apply look_none
  intro q hq
  obtain ⟨a, _, rfl⟩ := List.mem_map.1 hq
  show (a : Int) ≠ z
  omega
section
variable {W W' : World} {B Xb sv mb : Nat} {rv lv : Value} {ws : List (BitVec 64)} {p : List Nat} {fs : List (Nat × ByteArray)}
theorem leads_c (w : World) (h : LkAt w B Xb sv mb rv lv ws p fs) (x : BitVec 64) (hp : ∀ a ∈ p, a < 8192 ∧ 1 ≤ szX (ws.getD a 0#64)) :
    Calls Try.prog 53 #[.pointer (some ⟨Xb, 0, none⟩), .int .u64 (U64 x)] w (RetP (.bool (decide (x.toNat = 0 ∨ (1 ≤ x.toNat ∧ x.toNat - 1 ∈ p)))) w) := by
  obtain ⟨R, hR⟩ : ∃ R, R = decide (x.toNat = 0 ∨ (1 ≤ x.toNat ∧ x.toNat - 1 ∈ p)) := ⟨_, rfl⟩
  rw [← hR]
  obtain ⟨c0, c1, c2, c3⟩ := h.four
  have hX := h.blk.lt
  obtain ⟨k, hk⟩ : ∃ k : Nat, k = x.toNat := ⟨_, rfl⟩
  have hkl : k < 18446744073709551616 := by rw [hk]; exact x.isLt
  rw [← hk] at hR
  have e0 : U64 x = (k : Int) := by rw [hk]; rfl
  rw [e0]
  have HMp := Lib.hid h.mp
  clear h c0 c1 c3 hk e0
  by_cases h0 : k = 0
  · have HR := Lib.hid (show R = true by rw [hR]; exact decide_eq_true (.inl h0))
    subst h0
    clear hR hp
    go_enter Try.func53, Try.ntmps53
    go_wp2_with fail
    go_ret
    rw [HR.out]
    exact ⟨rfl, Below.refl _ _⟩
  · have k1 : ¬ (k : Int) = 0 := by omega
    have k2 : (1 : Int) ≤ (k : Int) := by omega
    by_cases hs : k ≤ 9223372036854775808
    · have hlk := HMp.out.look (k := (k : Int) - 1) (by simp [Lit.wf, IntKind.min, IntKind.max, IntKind.signed, IntKind.bits]; omega)
      have k3 : (k : Int) ≤ 9223372036854775808 := by omega
      have ek : (k : Int) - 1 = ((k - 1 : Nat) : Int) := by omega
      rw [ek, siz_look] at hlk
      by_cases hm : k - 1 ∈ p
      · have HR := Lib.hid (show R = true by rw [hR]; exact decide_eq_true (.inr ⟨by omega, hm⟩))
        have hz := (hp _ hm).2
        rw [if_pos hm] at hlk
        have hlk : (Instr.lookup 70 (.map (some mb)) (.int .i64 ((k : Int) - 1)) false).run Try.prog w = .ok (.int .i64 (szX (ws.getD (k - 1) 0#64) : Int)) w := by rw [ek]; exact hlk
        obtain ⟨sz, hsz⟩ : ∃ sz, sz = szX (ws.getD (k - 1) 0#64) := ⟨_, rfl⟩
        rw [← hsz] at hlk hz
        have hz0 : (0 : Int) < (sz : Int) := by omega
        clear hR hp hsz ek
        go_enter Try.func53, Try.ntmps53
        go_wp2_with fail
        go_ret
        rw [HR.out]
        exact ⟨by simp; omega, Below.refl _ _⟩
      · have HR := Lib.hid (show R = false by rw [hR]; exact decide_eq_false (fun h => h.elim (fun h => by omega) (fun h => hm h.2)))
        rw [if_neg hm] at hlk
        have hlk : (Instr.lookup 70 (.map (some mb)) (.int .i64 ((k : Int) - 1)) false).run Try.prog w = .ok (.int .i64 0) w := by rw [ek]; exact hlk
        clear hR hp ek
        go_enter Try.func53, Try.ntmps53
        go_wp2_with fail
        go_ret
        rw [HR.out]
        exact ⟨rfl, Below.refl _ _⟩
    · have HR := Lib.hid (show R = false by rw [hR]; exact decide_eq_false (fun h => h.elim (fun h => by omega) (fun h => by have := (hp _ h.2).1; omega)))
      have k3 : (9223372036854775808 : Int) < (k : Int) := by omega
      have k4 : (k : Int) < 18446744073709551616 := by omega
      obtain ⟨z, hz⟩ : ∃ z : Int, z = (k : Int) - 1 - 18446744073709551616 := ⟨_, rfl⟩
      have hlk := HMp.out.look (k := z) (by simp [Lit.wf, IntKind.min, IntKind.max, IntKind.signed, IntKind.bits]; omega)
      rw [siz_neg _ _ _ (by omega)] at hlk
      have hlk : (Instr.lookup 70 (.map (some mb)) (.int .i64 z) false).run Try.prog w = .ok (.int .i64 0) w := hlk
      obtain ⟨D, hD⟩ : ∃ D : Int, D = (k : Int) - 1 := ⟨_, rfl⟩
      have hcw : wrap64 (IntKind.u64.wrap D) = z := by
        have h1 : IntKind.u64.wrap D = D := by simp [IntKind.wrap, IntKind.bits, IntKind.signed]; omega
        rw [h1]
        unfold wrap64
        omega
      have e1 : (k : Int) - 1 = D := hD.symm
      clear hR hp hz k3 k4 hs hkl hD
      go_enter Try.func53, Try.ntmps53
      go_wp2_with fail
      go_ret
      rw [HR.out]
      exact ⟨rfl, Below.refl _ _⟩
end
end Go.Proofs.Ytaminpfgkegibaa
/- The bytes behind an object's, by a shift (pure). No conditions. -/
namespace Go.Proofs.Ytaminpfgkegibaa
set_option linter.unusedVariables false
set_option linter.unusedSimpArgs false
open Go.RowKit
theorem padB_shift (ws : List (BitVec 64)) (q r : Nat) (hr : r < 8) : padB ws (8 * q + r) (8 - r) = decide ((ws.getD q 0#64) >>> (8 * r) = 0#64) := by
  obtain ⟨y, hy⟩ : ∃ y, y = ws.getD q 0#64 := ⟨_, rfl⟩
  rw [← hy]
  have hb : ∀ i, i < 8 - r → byteAt ws (8 * q + r + i) = (y >>> (8 * (r + i))).setWidth 8 := by
    intro i hi
    unfold byteAt
    rw [show (8 * q + r + i) / 8 = q by omega, show (8 * q + r + i) % 8 = r + i by omega, ← hy]
  rw [Bool.eq_iff_iff]
  unfold padB bytesM
  rw [List.all_eq_true, decide_eq_true_eq]
  constructor
  · intro h
    apply BitVec.eq_of_getLsbD_eq
    intro j hj
    rw [BitVec.getLsbD_ushiftRight]
    by_cases hlt : 8 * r + j < 64
    · have h1 := h (byteAt ws (8 * q + r + j / 8)) (List.mem_map.2 ⟨j / 8, List.mem_range.2 (by omega), rfl⟩)
      have h2 : byteAt ws (8 * q + r + j / 8) = 0#8 := by simpa using h1
      rw [hb _ (by omega)] at h2
      have h3 := congrArg (fun z : BitVec 8 => z.getLsbD (j % 8)) h2
      simp only [BitVec.getLsbD_setWidth, BitVec.getLsbD_ushiftRight] at h3
      have e : 8 * (r + j / 8) + j % 8 = 8 * r + j := by omega
      rw [e] at h3
      have hd : decide (j % 8 < 8) = true := decide_eq_true (by omega)
      rw [hd, Bool.true_and] at h3
      rw [h3]
      simp
    · rw [BitVec.getLsbD_of_ge _ _ (by omega)]
      simp
  · intro h x hx
    obtain ⟨i, hi, rfl⟩ := List.mem_map.1 hx
    rw [hb i (List.mem_range.1 hi)]
    have h2 : y >>> (8 * (r + i)) = 0#64 := by
      rw [show 8 * (r + i) = 8 * r + 8 * i by omega, BitVec.shiftRight_add, h]
      simp
    rw [h2]
    rfl
theorem padN_zero {ws : List (BitVec 64)} {a room : Nat} (hg : goodX (ws.getD a 0#64) room = true) (h : B0 (ws.getD a 0#64) % 8 = 0) : padN ws a = true := by
  obtain ⟨_, _, _, hsz, _, _⟩ := head_of hg
  unfold padN padB
  rw [hsz, show 8 * (a + (1 + P0 (ws.getD a 0#64) + (B0 (ws.getD a 0#64) + 7) / 8)) - (8 * (a + 1 + P0 (ws.getD a 0#64)) + B0 (ws.getD a 0#64)) = 0 by omega]
  rfl
theorem padN_some {ws : List (BitVec 64)} {a room : Nat} (hg : goodX (ws.getD a 0#64) room = true) (h : B0 (ws.getD a 0#64) % 8 ≠ 0) : padN ws a = decide ((ws.getD (a + szX (ws.getD a 0#64) - 1) 0#64) >>> (8 * (B0 (ws.getD a 0#64) % 8)) = 0#64) := by
  obtain ⟨_, _, _, hsz, _, _⟩ := head_of hg
  rw [← padB_shift ws _ _ (by omega)]
  unfold padN
  rw [hsz]
  congr 1
  · omega
  · omega
end Go.Proofs.Ytaminpfgkegibaa
/- check.looked: object. Conditions: right objects. -/
namespace Go.Proofs.Ytaminpfgkegibaa
set_option linter.unusedVariables false
set_option linter.unusedSimpArgs false
open Go.RowKit Go.Maps
set_option maxHeartbeats 4000000
set_option maxRecDepth 100000
/-- The space stands as it was, whatever is told. -/
def SpB (wB : World) (B Bs s g : Nat) (v : Value) (ws : List (BitVec 64)) (b t e : Nat) : Prop := B = wB.heap.size ∧ SpAt wB Bs s g v ws b t e
theorem SpB.at_ {wB W : World} {B Bs s g : Nat} {v : Value} {ws : List (BitVec 64)} {b t e : Nat} (h : SpB wB B Bs s g v ws b t e) (hb : Below B wB W) : SpAt W Bs s g v ws b t e := h.2.below (h.1 ▸ hb)
section
variable {wB W W' : World} {B Bs Xb s g mb : Nat} {v rv lv : Value} {ws : List (BitVec 64)} {b t e : Nat} {p : List Nat} {fs : List (Nat × ByteArray)}
/-- What a row of tells leaves. -/
def ToldP (w wB : World) (B Xb sv mb : Nat) (rv lv : Value) (ws : List (BitVec 64)) (p : List Nat) (fs : List (Nat × ByteArray)) (w' : World) : Prop :=
  ∃ lv', LkAt w' B Xb sv mb rv lv' ws p fs ∧ Kept (fun k => k = Xb ∨ lv.ownBlock = some k) w w' ∧ (∀ k, lv'.ownBlock = some k → lv.ownBlock = some k ∨ w.heap.size ≤ k) ∧ Below B wB w'
theorem ptrF_at (ws : List (BitVec 64)) (p : List Nat) (a n k : Nat) : ptrF ws p a (n + 1) k = (if ptrN ws p a k = true then [] else [(a + 1 + k, ptrS)]) ++ ptrF ws p a n (k + 1) := by
  show (if ptrN ws p a k = true then ptrF ws p a n (k + 1) else (a + 1 + k, ptrS) :: ptrF ws p a n (k + 1)) = _
  by_cases h : ptrN ws p a k = true
  · rw [if_pos h, if_pos h]; rfl
  · rw [if_neg h, if_neg h]; rfl
theorem object_c (w : World) (hS : SpB wB B Bs s g v ws b t e) (hbw : Below B wB w) (h : LkAt w B Xb s mb rv lv ws p fs) (hl : fs.length ≤ 5000) (hw : ws.length ≤ 8192) (htl : t ≤ ws.length) (hp : ∀ a ∈ p, b ≤ a ∧ a < t ∧ goodX (ws.getD a 0#64) (t - a) = true) (a : Nat) (ha : a ∈ p) :
    Calls Try.prog 50 #[.pointer (some ⟨Xb, 0, none⟩), .int .i64 (a : Int)] w (fun r w' => r = .returned (.tuple #[]) ∧ ToldP w wB B Xb s mb rv lv ws p (fs ++ objE ws p a) w') := by
  obtain ⟨ha1, ha2, hg⟩ := hp a ha
  obtain ⟨x, hx⟩ : ∃ x, x = ws.getD a 0#64 := ⟨_, rfl⟩
  have hp2 : ∀ a ∈ p, a < 8192 ∧ 1 ≤ szX (ws.getD a 0#64) := fun y hy => by
    obtain ⟨_, h2, h3⟩ := hp y hy
    have := (goodX_out h3).2.2
    obtain ⟨_, _, _, h5, _, _⟩ := head_of h3
    exact ⟨by omega, by omega⟩
  have hgx := hg
  rw [← hx] at hgx
  obtain ⟨hv, hP64, hB1024, hsx, hsz, hroom⟩ := head_of hgx
  have hal : a < ws.length := by omega
  have hHd := fun W (hb : Below B wB W) => sphead_in W Bs s g v ws b t e (hS.at_ hb) a ha1 ha2 (by omega) hal
  have hxe : ws[a] = x := by rw [hx, List.getD_eq_getElem?_getD, List.getElem?_eq_getElem hal]; rfl
  rw [hxe, hv] at hHd
  have HHd := Lib.hid hHd
  obtain ⟨P, hP⟩ : ∃ P, P = P0 x := ⟨_, rfl⟩
  obtain ⟨n, hn⟩ : ∃ P, P = B0 x := ⟨_, rfl⟩
  obtain ⟨sz, hszz⟩ : ∃ P, P = szX x := ⟨_, rfl⟩
  rw [← hP, ← hn] at HHd
  rw [← hP] at hP64 hsx
  rw [← hn] at hB1024 hsx
  rw [← hszz] at hsx hroom
  have HG := Lib.hid (fun W (hb : Below B wB W) (i : Nat) (hi : i < ws.length) => get_in W Bs g v ws i hi (by omega) (hS.at_ hb).mem)
  have HSp := Lib.hid hS
  have H := Lib.hid h
  have HBw := Lib.hid hbw
  have Hp2 := Lib.hid hp2
  have HX := Lib.hid (And.intro hx (And.intro hP (And.intro hn (And.intro hszz hg))))
  have HL := Lib.hid (show fs.length ≤ 5000 ∧ a + sz ≤ ws.length ∧ ws.length ≤ 8192 ∧ 1 ≤ sz ∧ 1 + P ≤ sz by omega)
  obtain ⟨c0, c1, c2, c3⟩ := h.four
  have hXl := h.blk.lt
  obtain ⟨G, hG⟩ : ∃ G, G = fs ++ ptrF ws p a P 0 := ⟨_, rfl⟩
  have HGe := Lib.hid hG
  have aI : (a : Int) ≤ 8192 := by omega
  have a0 : (0 : Int) ≤ (a : Int) := by omega
  have nI : (n : Int) ≤ 1024 := by omega
  have n0 : (0 : Int) ≤ (n : Int) := by omega
  have PI : (P : Int) ≤ 64 := by omega
  have Ha := Lib.hid ha
  clear hv hgx hg hp hp2 ha hx hP hn hszz hsz hHd hS h hbw hxe hG hl hsx hroom ha1 ha2 htl hw hal
  go_enter Try.func50, Try.ntmps50
  go_wp2_with fail
  refine Calls.mono (HHd.out w HBw.out) ?_
  rintro r w1 ⟨rfl, b1⟩
  have h1 := H.out.below b1
  have H1 := Lib.hid (And.intro h1 (And.intro b1 (HBw.out.trans (b1.mono H.out.lts.2.2.2.2))))
  clear b1 h1 c0 c1 c2 c3
  go_wp2_with fail
  obtain ⟨Hb, hHb⟩ : ∃ H, H = w1.heap.size := ⟨_, rfl⟩
  obtain ⟨w2, hw2⟩ : ∃ w3, w3 = w1.alloc (.cells #[.int .i64 (P : Int), .int .i64 (n : Int), .bool false, .int .i64 0] 111) := ⟨_, rfl⟩
  have hbk : Bk w2 Hb 111 #[.int .i64 (P : Int), .int .i64 (n : Int), .bool false, .int .i64 0] := by rw [hw2, hHb]; exact Bk.new w1 _ _
  have b12 : Below w1.heap.size w1 w2 := by rw [hw2]; exact Gw.alloc w1 _
  rw [← hw2, ← hHb]
  have HS0 : Hid (∃ lv' fs', LkAt w2 B Xb s mb rv lv' ws p fs' ∧ fs' ++ ptrF ws p a (P - 0) 0 = G ∧ Bk w2 Hb 111 #[.int .i64 (P : Int), .int .i64 (n : Int), .bool false, .int .i64 0] ∧ (∀ k, lv'.ownBlock = some k → k ≠ Hb) ∧ Kept (fun k => k = Xb ∨ lv.ownBlock = some k) w w2 ∧ (∀ k, lv'.ownBlock = some k → lv.ownBlock = some k ∨ w.heap.size ≤ k) ∧ Below B wB w2 ∧ fs'.length ≤ 5000 + 0) := Lib.hid
    ⟨lv, fs, H1.out.1.below b12, HGe.out.symm, hbk, fun k hk e => by have := (H1.out.1.lts.2.2.2.1 k hk).2; omega, (Kept.of_below H1.out.2.1 _).trans (Kept.of_below b12 _), fun k hk => .inl hk, H1.out.2.2.trans (b12.mono H1.out.1.lts.2.2.2.2), HL.out.1⟩
  have hHl := hbk.lt
  obtain ⟨g0, g1, g2, g3⟩ := hbk.four
  have hHX : Hb ≠ Xb := by have := H1.out.1.blk.lt; omega
  have HHX := Lib.hid (show Hb ≠ Xb ∧ w.heap.size ≤ Hb from ⟨hHX, by have := H1.out.2.1.size; omega⟩)
  clear hbk b12 hw2 hHb
  go_wp2_with fail
  go_loopw [27] (fun x W => ∃ i : Nat, x = .int .i64 i ∧ i ≤ P ∧ Hid (∃ lv' fs', LkAt W B Xb s mb rv lv' ws p fs' ∧ fs' ++ ptrF ws p a (P - i) i = G ∧ Bk W Hb 111 #[.int .i64 (P : Int), .int .i64 (n : Int), .bool false, .int .i64 0] ∧ (∀ k, lv'.ownBlock = some k → k ≠ Hb) ∧ Kept (fun k => k = Xb ∨ lv.ownBlock = some k) w W ∧ (∀ k, lv'.ownBlock = some k → lv.ownBlock = some k ∨ w.heap.size ≤ k) ∧ Below B wB W ∧ fs'.length ≤ 5000 + i)) (fun x _ => P - (Go.RowKit.intOf x).toNat)
  case atStart => exact ⟨0, rfl, Nat.zero_le _, HS0⟩
  case round =>
    obtain ⟨i, rfl, hi, hS⟩ := hrel
    clear HS0 g0 g1 g2 g3 hHl
    obtain ⟨lv', fs', e1, e2, e3, e4, e5, e6, e7, e8⟩ := hS.out
    have p0 : (0 : Int) ≤ (i : Int) := by omega
    obtain ⟨c0, c1, c2, c3⟩ := e1.four
    have hXl := e1.blk.lt
    have sp := HSp.out.at_ e7
    obtain ⟨d0, d1, d2, d3⟩ := sp.four
    have hsl := sp.blk.lt
    by_cases hlt : i < P
    · have p1 : (i : Int) < (P : Int) := by omega
      obtain ⟨q, hq⟩ : ∃ q, q = a + 1 + i := ⟨_, rfl⟩
      have hql : q < ws.length := by have := HL.out; omega
      have q8 : (a : Int) + 1 + (i : Int) = (q : Int) := by omega
      have HGt := Lib.hid (HG.out wr e7 q hql)
      obtain ⟨y, hy⟩ : ∃ y, y = ws[q] := ⟨_, rfl⟩
      rw [← hy] at HGt
      have hye : ws.getD (a + 1 + i) 0#64 = y := by rw [← hq, hy, List.getD_eq_getElem?_getD, List.getElem?_eq_getElem hql]; rfl
      have HLd := Lib.hid (leads_c wr e1 y Hp2.out)
      obtain ⟨r, hr⟩ : ∃ r, r = decide (y.toNat = 0 ∨ (1 ≤ y.toNat ∧ y.toNat - 1 ∈ p)) := ⟨_, rfl⟩
      have hpn : ptrN ws p a i = r := by unfold ptrN; rw [hye, hr]
      rw [← hr] at HLd
      obtain ⟨j, hj⟩ : ∃ j, P - i = j + 1 := ⟨P - i - 1, by omega⟩
      rw [hj, ptrF_at, hpn] at e2
      have hj2 : P - (i + 1) = j := by omega
      have HE := Lib.hid (And.intro e1 (And.intro e2 (And.intro e3 (And.intro e4 (And.intro e5 (And.intro e6 (And.intro e7 (And.intro e8 (And.intro hj2 hq)))))))))
      have qI : (q : Int) ≤ 8192 := by have := HL.out; omega
      obtain ⟨xv, hxv⟩ : ∃ xv, xv = U64 y := ⟨_, rfl⟩
      rw [← hxv] at HGt HLd
      clear e1 e2 e3 e4 e5 e6 e7 e8 hS hy hye hr hpn hj hj2 hq sp hxv
      cases r with
      | true =>
        go_wp2_with fail
        refine Calls.mono HGt.out ?_
        rintro r w6 ⟨rfl, rfl⟩
        go_wp2_with fail
        refine Calls.mono HLd.out ?_
        rintro r w7 ⟨rfl, b7⟩
        have HN : Hid (∃ lv' fs', LkAt w7 B Xb s mb rv lv' ws p fs' ∧ fs' ++ ptrF ws p a (P - (i + 1)) (i + 1) = G ∧ Bk w7 Hb 111 #[.int .i64 (P : Int), .int .i64 (n : Int), .bool false, .int .i64 0] ∧ (∀ k, lv'.ownBlock = some k → k ≠ Hb) ∧ Kept (fun k => k = Xb ∨ lv.ownBlock = some k) w w7 ∧ (∀ k, lv'.ownBlock = some k → lv.ownBlock = some k ∨ w.heap.size ≤ k) ∧ Below B wB w7 ∧ fs'.length ≤ 5000 + (i + 1)) := by
          obtain ⟨e1, e2, e3, e4, e5, e6, e7, e8, hj2, hq⟩ := HE.out
          exact Lib.hid ⟨lv', fs', e1.below b7, by rw [hj2]; exact e2, e3.below b7 e3.lt, e4, e5.trans (Kept.of_below b7 _), e6, e7.trans (b7.mono e1.lts.2.2.2.2), by omega⟩
        clear b7 c0 c1 c2 c3 d0 d1 d2 d3
        go_wp2_with fail
        go_roundw
        case rel => first | exact ⟨i + 1, by go_num, by omega, HN⟩ | ((repeat apply Exists.intro); refine ⟨?_, rfl⟩; exact ⟨i + 1, by go_num, by omega, HN⟩)
        case measure => simp [Go.RowKit.intOf]; omega
      | false =>
        go_wp2_with fail
        refine Calls.mono HGt.out ?_
        rintro r w6 ⟨rfl, rfl⟩
        go_wp2_with fail
        refine Calls.mono HLd.out ?_
        rintro r w7 ⟨rfl, b7⟩
        have HT := Lib.hid (tell_c w7 (HE.out.1.below b7) (by have := HE.out.2.2.2.2.2.2.2.1; omega) q ptrS)
        have HB7 := Lib.hid b7
        clear b7 c0 c1 c2 c3 d0 d1 d2 d3
        unfold ptrS at HT
        go_wp2_with fail
        refine Calls.mono HT.out ?_
        rintro r w8 ⟨rfl, lv8, h8, k8, n8⟩
        have HN : Hid (∃ lv' fs', LkAt w8 B Xb s mb rv lv' ws p fs' ∧ fs' ++ ptrF ws p a (P - (i + 1)) (i + 1) = G ∧ Bk w8 Hb 111 #[.int .i64 (P : Int), .int .i64 (n : Int), .bool false, .int .i64 0] ∧ (∀ k, lv'.ownBlock = some k → k ≠ Hb) ∧ Kept (fun k => k = Xb ∨ lv.ownBlock = some k) w w8 ∧ (∀ k, lv'.ownBlock = some k → lv.ownBlock = some k ∨ w.heap.size ≤ k) ∧ Below B wB w8 ∧ fs'.length ≤ 5000 + (i + 1)) := by
          obtain ⟨e1, e2, e3, e4, e5, e6, e7, e8, hj2, hq⟩ := HE.out
          have b7 := HB7.out
          have s7 := b7.size
          have s5 := e5.size
          have hH := e3.lt
          have own9 : ∀ k, k = Xb ∨ lv'.ownBlock = some k → k = Xb ∨ lv.ownBlock = some k ∨ w.heap.size ≤ k := fun k hk => hk.elim .inl (fun h => .inr (e6 k h))
          have k58 : Kept (fun k => k = Xb ∨ lv.ownBlock = some k) w w8 := by
            have q1 := e5.trans (Kept.of_below b7 _)
            refine ⟨k8.os.trans q1.os, k8.tape.trans q1.tape, k8.output.trans q1.output, Nat.le_trans q1.size k8.size, fun j hj hn => ?_⟩
            refine (k8.block j (Nat.lt_of_lt_of_le hj q1.size) (fun h => ?_)).trans (q1.block j hj hn)
            rcases own9 j h with h | h | h
            · exact hn (.inl h)
            · exact hn (.inr h)
            · omega
          have hB := e1.lts.2.2.2.2
          refine Lib.hid ⟨lv8, fs' ++ [(q, ptrS)], h8, ?_, k8.bk (e3.below b7 hH) (fun h => h.elim (fun h => HHX.out.1 h) (fun h => e4 _ h rfl)), fun k hk e => ?_, k58, fun k hk => ?_, (e7.trans (b7.mono hB)).trans (k8.below (by omega) (fun k hk => ?_)), by simp; omega⟩
          · rw [hj2, ← e2, hq, List.append_assoc]
            rfl
          · rcases n8 k hk with h | h
            · exact e4 k h e
            · omega
          · rcases n8 k hk with h | h
            · exact e6 k h
            · exact .inr (by omega)
          · rcases hk with hk | hk
            · rw [hk]; exact e1.BX.1
            · exact (e1.lts.2.2.2.1 k hk).1
        clear h8 k8 n8
        go_wp2_with fail
        go_roundw
        case rel => first | exact ⟨i + 1, by go_num, by omega, HN⟩ | ((repeat apply Exists.intro); refine ⟨?_, rfl⟩; exact ⟨i + 1, by go_num, by omega, HN⟩)
        case measure => simp [Go.RowKit.intOf]; omega
    · have p1 : ¬ (i : Int) < (P : Int) := by omega
      have hiP : i = P := by omega
      have hG : fs' = G := by rw [← e2, show P - i = 0 by omega]; exact (List.append_nil _).symm
      obtain ⟨u, hu⟩ : ∃ u, u = n % 8 := ⟨_, rfl⟩
      have hu1 : (n : Int) % 8 = (u : Int) := by omega
      have hu2 : (n : Int).tmod 8 = (u : Int) := by rw [Int.tmod_eq_emod_of_nonneg (by omega)]; exact hu1
      have hlk := e1.mp.look (k := (a : Int)) (by simp [Lit.wf, IntKind.min, IntKind.max, IntKind.signed, IntKind.bits]; omega)
      rw [siz_look, if_pos Ha.out, ← HX.out.1, ← HX.out.2.2.2.1] at hlk
      have hlk : (Instr.lookup 70 (.map (some mb)) (.int .i64 (a : Int)) false).run Try.prog wr = .ok (.int .i64 (sz : Int)) wr := hlk
      obtain ⟨g0, g1, g2, g3⟩ := e3.four
      have hHl := e3.lt
      have s1 : (sz : Int) ≤ 8192 := by have := HL.out; omega
      have s2 : (1 : Int) ≤ (sz : Int) := by have := HL.out; omega
      have HE := Lib.hid (And.intro e1 (And.intro hG (And.intro e4 (And.intro e5 (And.intro e6 (And.intro e7 e8))))))
      by_cases h0 : u = 0
      · have HPd : padF ws a = [] := by
          unfold padF
          rw [if_pos (padN_zero HX.out.2.2.2.2 (by rw [← HX.out.1, ← HX.out.2.2.1, ← hu]; exact h0))]
        have HPd := Lib.hid HPd
        subst h0
        clear e1 e2 e3 e4 e5 e6 e7 e8 hS hG sp hu
        go_wp2_with fail
        refine bodyPost_ret (results_none (by kernel_rfl) _ _ _) rfl ?_
        obtain ⟨e1, hG, e4, e5, e6, e7, e8⟩ := HE.out
        refine ⟨rfl, lv', ?_, e5, e6, e7⟩
        unfold objE
        rw [HPd.out, List.append_nil, ← HX.out.1, ← HX.out.2.1, ← HGe.out, ← hG]
        exact e1
      · obtain ⟨la, hla⟩ : ∃ la, la = a + sz - 1 := ⟨_, rfl⟩
        have hla2 : (a : Int) + (sz : Int) - 1 = (la : Int) := by omega
        have hll : la < ws.length := by have := HL.out; omega
        have HGt := Lib.hid (HG.out wr e7 la hll)
        obtain ⟨y, hy⟩ : ∃ y, y = ws[la] := ⟨_, rfl⟩
        rw [← hy] at HGt
        have hye : ws.getD la 0#64 = y := by rw [hy, List.getD_eq_getElem?_getD, List.getElem?_eq_getElem hll]; rfl
        have hpn : padN ws a = decide (y >>> (8 * u) = 0#64) := by
          rw [padN_some HX.out.2.2.2.2 (by rw [← HX.out.1, ← HX.out.2.2.1, ← hu]; exact h0), ← HX.out.1, ← HX.out.2.2.1, ← hu, ← HX.out.2.2.2.1, ← hla, hye]
        have HPn := Lib.hid (And.intro hpn (And.intro hla hla2))
        have hu0 : ¬ (u : Int) = 0 := by omega
        have hu3 : (u : Int) ≤ 7 := by omega
        have hu4 : (1 : Int) ≤ (u : Int) := by omega
        have la1 : (la : Int) ≤ 8192 := by have := HL.out; omega
        clear e1 e2 e3 e4 e5 e6 e7 e8 hS hG sp hu hpn hye hy hla hll
        go_wp2_with fail
        refine Calls.mono HGt.out ?_
        rintro r w6 ⟨rfl, hw6⟩
        subst hw6
        by_cases hz0 : y >>> (8 * u) = 0#64
        · have hz : (U64 y / 2 ^ (8 * u) != 0) = false := by rw [shrU64, hz0]; rfl
          have HPd := Lib.hid (show padF ws a = [] from by unfold padF; rw [if_pos (by rw [HPn.out.1]; exact decide_eq_true hz0)])
          clear hz0
          go_wp2_with fail
          go_end0
          obtain ⟨e1, hG, e4, e5, e6, e7, e8⟩ := HE.out
          refine ⟨rfl, lv', ?_, e5, e6, e7⟩
          unfold objE
          rw [HPd.out, List.append_nil, ← HX.out.1, ← HX.out.2.1, ← HGe.out, ← hG]
          exact e1
        · have hz : (U64 y / 2 ^ (8 * u) != 0) = true := by
            rw [shrU64]
            simp only [bne_iff_ne, ne_eq]
            intro h
            apply hz0
            apply BitVec.eq_of_toNat_eq
            have h2 : ((y >>> (8 * u)).toNat : Int) = 0 := h
            have h3 : (y >>> (8 * u)).toNat = 0 := by omega
            rw [h3]; rfl
          have HPd := Lib.hid (show padF ws a = [(la, padS)] from by unfold padF; rw [if_neg (by rw [HPn.out.1, decide_eq_true_eq]; exact hz0), ← HX.out.1, ← HX.out.2.2.2.1, ← HPn.out.2.1])
          have HT := Lib.hid (tell_c w6 HE.out.1 (by have := HE.out.2.2.2.2.2.2; omega) la padS)
          clear hz0 c0 c1 c2 c3 d0 d1 d2 d3 g0 g1 g2 g3
          unfold padS at HT
          go_wp2_with fail
          refine Calls.mono HT.out ?_
          rintro r w8 ⟨rfl, lv8, h8, k8, n8⟩
          have H8 := Lib.hid (And.intro h8 (And.intro k8 n8))
          clear h8 k8 n8 hlk hz
          go_wp2_with fail
          go_end0
          obtain ⟨e1, hG, e4, e5, e6, e7, e8⟩ := HE.out
          obtain ⟨h8, k8, n8⟩ := H8.out
          have s5 := e5.size
          refine ⟨rfl, lv8, ?_, ?_, fun k hk => ?_, ?_⟩
          · unfold objE
            rw [HPd.out, ← HX.out.1, ← HX.out.2.1, ← List.append_assoc, ← HGe.out, ← hG]
            exact h8
          · refine ⟨k8.os.trans e5.os, k8.tape.trans e5.tape, k8.output.trans e5.output, Nat.le_trans e5.size k8.size, fun j hj hn => ?_⟩
            refine (k8.block j (Nat.lt_of_lt_of_le hj e5.size) (fun h => ?_)).trans (e5.block j hj hn)
            rcases h with h | h
            · exact hn (.inl h)
            · rcases e6 j h with h | h
              · exact hn (.inr h)
              · omega
          · rcases n8 k hk with h | h
            · exact e6 k h
            · exact .inr (by omega)
          · refine e7.trans (k8.below e1.lts.2.2.2.2 (fun k hk => ?_))
            rcases hk with hk | hk
            · rw [hk]; exact e1.BX.1
            · exact (e1.lts.2.2.2.1 k hk).1
end
end Go.Proofs.Ytaminpfgkegibaa
/- check.looked: objects. Conditions: right objects. -/
namespace Go.Proofs.Ytaminpfgkegibaa
set_option linter.unusedVariables false
set_option linter.unusedSimpArgs false
open Go.RowKit Go.Maps
set_option maxHeartbeats 4000000
set_option maxRecDepth 100000
section
variable {wB W W' : World} {B Bs Xb s g mb : Nat} {v rv lv : Value} {ws : List (BitVec 64)} {b t e : Nat} {p : List Nat} {fs : List (Nat × ByteArray)}
theorem ToldP.trans {w w1 w2 : World} {lv1 : Value} (e5 : Kept (fun k => k = Xb ∨ lv.ownBlock = some k) w w1) (e6 : ∀ k, lv1.ownBlock = some k → lv.ownBlock = some k ∨ w.heap.size ≤ k) (h : ToldP w1 wB B Xb s mb rv lv1 ws p fs w2) : ToldP w wB B Xb s mb rv lv ws p fs w2 := by
  obtain ⟨lv8, h8, k8, n8, b8⟩ := h
  have s5 := e5.size
  refine ⟨lv8, h8, ⟨k8.os.trans e5.os, k8.tape.trans e5.tape, k8.output.trans e5.output, Nat.le_trans e5.size k8.size, fun j hj hn => ?_⟩, fun k hk => ?_, b8⟩
  · refine (k8.block j (Nat.lt_of_lt_of_le hj e5.size) (fun h => ?_)).trans (e5.block j hj hn)
    rcases h with h | h
    · exact hn (.inl h)
    · rcases e6 j h with h | h
      · exact hn (.inr h)
      · omega
  · rcases n8 k hk with h | h
    · exact e6 k h
    · exact .inr (by omega)
theorem lkobj_c (w : World) (hS : SpB wB B Bs s g v ws b t e) (hbw : Below B wB w) (h : LkAt w B Xb s mb rv lv ws p fs) (hl : (fs ++ allE ws p p).length ≤ 5000) (hw : ws.length ≤ 8192) (htl : t ≤ ws.length) (hp : ∀ a ∈ p, b ≤ a ∧ a < t ∧ goodX (ws.getD a 0#64) (t - a) = true) (hpl : p.length ≤ 8192) :
    Calls Try.prog 24 #[.pointer (some ⟨Xb, 0, none⟩)] w (fun r w' => r = .returned (.tuple #[]) ∧ ToldP w wB B Xb s mb rv lv ws p (fs ++ allE ws p p) w') := by
  obtain ⟨c0, c1, c2, c3⟩ := h.four
  have hXl := h.blk.lt
  obtain ⟨A, c, e0, _⟩ := h.row.form
  obtain ⟨N, hN⟩ : ∃ N, N = p.length := ⟨_, rfl⟩
  rw [← hN] at e0
  subst e0
  have HN := Lib.hid hN
  have HH := Lib.hid (And.intro hS (And.intro hw (And.intro htl hp)))
  obtain ⟨G, hG⟩ : ∃ G, G = fs ++ allE ws p p := ⟨_, rfl⟩
  rw [← hG] at hl ⊢
  have HL := Lib.hid hl
  have HS0 : Hid (∃ lv' fs', LkAt w B Xb s mb (.slice A N c) lv' ws p fs' ∧ fs' ++ allE ws p (p.drop 0) = G ∧ Kept (fun k => k = Xb ∨ lv.ownBlock = some k) w w ∧ (∀ k, lv'.ownBlock = some k → lv.ownBlock = some k ∨ w.heap.size ≤ k) ∧ Below B wB w) := Lib.hid ⟨lv, fs, h, by rw [hG]; rfl, Kept.refl _ _, fun k hk => .inl hk, hbw⟩
  have N8 : (N : Int) ≤ 8192 := by omega
  clear hS hw htl hp hpl hG hl hbw h hN
  go_enter Try.func24, Try.ntmps24
  go_wp2_with fail
  go_loopw [9] (fun x W => ∃ i : Nat, x = .int .i64 i ∧ i ≤ N ∧ Hid (∃ lv' fs', LkAt W B Xb s mb (.slice A N c) lv' ws p fs' ∧ fs' ++ allE ws p (p.drop i) = G ∧ Kept (fun k => k = Xb ∨ lv.ownBlock = some k) w W ∧ (∀ k, lv'.ownBlock = some k → lv.ownBlock = some k ∨ w.heap.size ≤ k) ∧ Below B wB W)) (fun x _ => N - (Go.RowKit.intOf x).toNat)
  case atStart => exact ⟨0, rfl, Nat.zero_le _, HS0⟩
  case round =>
    obtain ⟨i, rfl, hi, hS⟩ := hrel
    clear HS0 c0 c1 c2 c3 hXl
    obtain ⟨lv', fs', e1, e2, e3, e4, e5⟩ := hS.out
    have p0 : (0 : Int) ≤ (i : Int) := by omega
    by_cases hlt : i < N
    · have p1 : (i : Int) < (N : Int) := by omega
      have hil : i < p.length := by rw [← HN.out]; exact hlt
      have hrow : Ow iN 3 wr B (.slice A p.length c) p := by rw [← HN.out]; exact e1.row
      obtain ⟨ad, rfl, hlt2, hc⟩ := hrow.rd i hil
      obtain ⟨a, ha⟩ : ∃ a, a = p[i] := ⟨_, rfl⟩
      rw [← ha] at hc
      unfold iN at hc
      have hdr : p.drop i = a :: p.drop (i + 1) := by rw [List.drop_eq_getElem_cons hil, ha]
      rw [hdr] at e2
      have e2' : fs' ++ objE ws p a ++ allE ws p (p.drop (i + 1)) = G := by rw [List.append_assoc]; exact e2
      have hfl : fs'.length ≤ 5000 := by
        have h1 := HL.out
        rw [← e2', List.length_append, List.length_append] at h1
        omega
      have HO := Lib.hid (object_c wr HH.out.1 e5 e1 hfl HH.out.2.1 HH.out.2.2.1 HH.out.2.2.2 a (by rw [ha]; exact List.getElem_mem _))
      have HE := Lib.hid (And.intro e2' (And.intro e3 e4))
      clear e1 e2 e2' e3 e4 e5 hS ha hdr hfl hil hrow
      go_wp2_with fail
      refine Calls.mono HO.out ?_
      rintro r w6 ⟨rfl, ht⟩
      obtain ⟨lv8, h8, k8, n8, b8⟩ := ToldP.trans HE.out.2.1 HE.out.2.2 ht
      have HNx : Hid (∃ lv' fs', LkAt w6 B Xb s mb (.slice (some ad) N c) lv' ws p fs' ∧ fs' ++ allE ws p (p.drop (i + 1)) = G ∧ Kept (fun k => k = Xb ∨ lv.ownBlock = some k) w w6 ∧ (∀ k, lv'.ownBlock = some k → lv.ownBlock = some k ∨ w.heap.size ≤ k) ∧ Below B wB w6) := Lib.hid ⟨lv8, _, h8, HE.out.1, k8, n8, b8⟩
      clear ht h8 k8 n8 b8 hc hlt2
      go_wp2_with fail
      go_roundw
      case rel => first | exact ⟨i + 1, by go_num, by omega, HNx⟩ | ((repeat apply Exists.intro); refine ⟨?_, rfl⟩; exact ⟨i + 1, by go_num, by omega, HNx⟩)
      case measure => simp [Go.RowKit.intOf]; omega
    · have p1 : ¬ (i : Int) < (N : Int) := by omega
      have hG : fs' = G := by
        rw [← e2, List.drop_of_length_le (by rw [← HN.out]; omega)]
        exact (List.append_nil _).symm
      have HE := Lib.hid (And.intro e1 (And.intro hG (And.intro e3 (And.intro e4 e5))))
      clear e1 e2 e3 e4 e5 hS hG
      go_wp2_with fail
      go_end0
      obtain ⟨e1, hG, e3, e4, e5⟩ := HE.out
      exact ⟨rfl, lv', hG ▸ e1, e3, e4, e5⟩
end
end Go.Proofs.Ytaminpfgkegibaa
/- Names of 32 bytes: their cells. No conditions. -/
namespace Go.Proofs.Ytaminpfgkegibaa
set_option linter.unusedVariables false
set_option linter.unusedSimpArgs false
open Go.RowKit Go.Maps
abbrev Nm := List (BitVec 8)
def nW (k : Nm) : Prop := k.length = 32
def nC (k : Nm) : Array Value := (k.map b8).toArray
def nV (k : Nm) : Value := .agg (nC k)
def litB (x : BitVec 8) : Lit := .int .u8 (U8 x)
def keyN (k : Nm) : Lit := .string (keyBytes (k.map litB))
theorem wf8 (x : BitVec 8) : (Lit.int .u8 (U8 x)).wf = true := by
  have h1 := U8_lo x
  have h2 := U8_hi x
  simp [Lit.wf, IntKind.min, IntKind.max, IntKind.signed, IntKind.bits]; omega
theorem lits_u8 (m : Nat) (a : Value) : Try.prog.keyLits (m + 1) 5 [a] = match a with
    | .int q n => if q = .u8 ∧ (Lit.int .u8 n).wf = true then some [.int .u8 n] else none
    | _ => none := by
  unfold Program.keyLits
  rw [Try.underlying5]
  cases a <;> simp
theorem mapM_some {α β : Type} {f : α → Option β} {g : α → β} : ∀ l : List α, (∀ x ∈ l, f x = some (g x)) → l.mapM f = some (l.map g)
  | [], _ => rfl
  | x :: l, h => by
    rw [List.mapM_cons, h x List.mem_cons_self, mapM_some l (fun y hy => h y (List.mem_cons_of_mem _ hy))]
    rfl
theorem flat_one {α : Type} (f : BitVec 8 → α) : ∀ k : Nm, (k.map fun x => [f x]).flatten = k.map f
  | [] => rfl
  | x :: k => by simp only [List.map_cons, List.flatten_cons, flat_one f k]; rfl
theorem cells32 : Try.prog.cellsOf 147 = 32 := by kernel_rfl
theorem cells1 : Try.prog.cellsOf 5 = 1 := by kernel_rfl
theorem lits_name (m : Nat) (cs : List Value) (h : cs.length = 32) : Try.prog.keyLits (m + 2) 147 cs = ((List.range 32).mapM fun i => Try.prog.keyLits (m + 1) 5 ((cs.drop i).take 1)).map List.flatten := by
  conv => lhs; unfold Program.keyLits
  rw [Try.underlying147]
  simp only [cells32, cells1, h, if_true, Nat.mul_one]
theorem lits_nm (m : Nat) (k : Nm) (h : nW k) : Try.prog.keyLits (m + 2) 147 (k.map b8) = some (k.map litB) := by
  rw [lits_name m _ (by rw [List.length_map]; exact h)]
  rw [mapM_some (g := fun i => [litB (k.getD i 0#8)]) _ (fun i hi => by
    have hi : i < k.length := by rw [h]; exact List.mem_range.1 hi
    have e : ((k.map b8).drop i).take 1 = [b8 k[i]] := by
      rw [List.drop_eq_getElem_cons (by rw [List.length_map]; exact hi)]
      simp
    rw [e]
    unfold b8
    rw [lits_u8]
    simp only [wf8, and_self, if_true]
    rw [List.getD_eq_getElem?_getD, List.getElem?_eq_getElem hi]
    rfl)]
  rw [Option.map_some, ← flat_one litB k]
  congr 2
  apply List.ext_getElem
  · simp; exact h.symm
  · intro i h1 h2
    have hi : i < k.length := by simpa using h2
    simp [List.getElem?_eq_getElem hi]
end Go.Proofs.Ytaminpfgkegibaa
/- Names: compared; loaded, stored, copied as whole rows; (table.Name).String. No conditions. -/
namespace Go.Proofs.Ytaminpfgkegibaa
set_option linter.unusedVariables false
set_option linter.unusedSimpArgs false
open Go.RowKit Go.Maps
set_option maxRecDepth 100000
set_option maxHeartbeats 400000
theorem litB_inj {x y : BitVec 8} (h : litB x = litB y) : x = y := by unfold litB at h; injection h with _ h; exact U8_inj h
theorem map_lit_inj : ∀ {k q : Nm}, k.map litB = q.map litB → k = q
  | [], [], _ => rfl
  | [], _ :: _, h => by cases h
  | _ :: _, [], h => by cases h
  | x :: k, y :: q, h => by
    simp only [List.map_cons, List.cons.injEq] at h
    rw [litB_inj h.1, map_lit_inj h.2]
theorem formedN {k : Nm} (h : nW k) : (nV k).formed Try.prog 147 = true := by
  unfold nV Value.formed
  rw [Try.underlying147]
  simp only [cells32]
  have : (nC k).size = 32 := by unfold nC; simp; exact h
  simp [this]
theorem eqN (k q : Nm) (hk : nW k) (hq : nW q) (W : World) : (Op.equalIn 10000 147 (.agg (nC k)) (.agg (nC q))).run Try.prog W = .ok (decide (k = q)) W := by
  obtain ⟨r, hr, hiff⟩ := run_equalIn_deep (P := Try.prog) 9998 2 147 (by kernel_rfl) W 2 2 (nV k) (nV q) (k.map litB) (q.map litB) (formedN hk) (formedN hq)
    (by rw [show (nV k).cells.toList = k.map b8 from by unfold nV nC Value.cells; simp]; exact lits_nm 0 k hk) (by rw [show (nV q).cells.toList = q.map b8 from by unfold nV nC Value.cells; simp]; exact lits_nm 0 q hq)
  have e : r = decide (k = q) := by
    rw [Bool.eq_iff_iff, hiff, decide_eq_true_eq]
    exact ⟨map_lit_inj, fun e => by rw [e]⟩
  rw [← e]
  exact hr
def zN : Nm := List.replicate 32 0#8
theorem zN_w : nW zN := List.length_replicate ..
theorem nC_size {k : Nm} (h : nW k) : (nC k).size = 32 := by unfold nC; simp; exact h
theorem nC_one (k : Nm) : (nC k).all (·.oneCell') = true := by
  unfold nC
  simp [b8_one]
theorem zeroN (W : World) : (zeroValue 147).run Try.prog W = .ok (.agg (nC zN)) W := by
  have e : nC zN = Array.replicate 32 (.int .u8 0) := by
    unfold nC zN
    apply Array.ext'
    simp [b8, U8]
  have h : (zeroValue 147).run Try.prog W = .ok (.agg (Array.replicate 32 (.int .u8 0))) W := by kernel_rfl
  rw [e]; exact h
theorem nrd {w : World} {g B : Nat} {E : TypeId} {k : Nm} (h : Bk w g E (nC k)) (hB : g < B) : Rd b8 w B (some ⟨g, 0, none⟩) k := h.rd rfl hB
theorem setRow_below {w : World} {B g : Nat} (hB : B ≤ g) (cs : Array Value) : Below B w (w.setRow g cs) :=
  ⟨rfl, rfl, rfl, by simp, fun k hk => setRow_other w g k cs (by omega)⟩
section
variable {ops : Array Oper} {rest : List Oper} {o : Oper} {a : Act} {w : World} {Q : Exit → Act → World → Prop}
theorem wp_loadN (hg : o.guard = none) (x : Operand) (ho : o.op = .load 147 x) (g : Nat) (hx : a.eval x = .pointer (some ⟨g, 0, none⟩)) (E : TypeId) (cs : Array Value) (hb : Bk w g E cs) (hs : cs.size = 32)
    (h : wpList Try.prog ops Q rest (a.put o.dst (.agg cs)) w) : wpList Try.prog ops Q (o :: rest) a w :=
  wpList_load_row hg 147 x ho g hx E cs (0, 0) _ hb Try.underlying147 rfl (by rw [hs]; kernel_rfl) h
/-- .. at an operation whose guard holds. -/
theorem wp_loadG (hw : Region.wanted o (yielded ops a.tmps) = true) (x : Operand) (ho : o.op = .load 147 x) (g : Nat) (hx : a.eval x = .pointer (some ⟨g, 0, none⟩)) (E : TypeId) (cs : Array Value) (hb : Bk w g E cs) (hs : cs.size = 32)
    (h : wpList Try.prog ops Q rest (a.put o.dst (.agg cs)) w) : wpList Try.prog ops Q (o :: rest) a w :=
  wpList_step fun _ hK => by
    rw [if_pos hw]
    exact wp_load_row 147 x ho g hx E cs (0, 0) _ hb Try.underlying147 rfl (by rw [hs]; kernel_rfl) (hK _ _ h)
theorem wp_storeN (hg : o.guard = none) (x y : Operand) (ho : o.op = .store 147 x y) (g : Nat) (cs : Array Value) (hx : a.eval x = .pointer (some ⟨g, 0, none⟩)) (hy : a.eval y = .agg cs) (E : TypeId) (old : Array Value) (hb : Bk w g E old)
    (hs : cs.size = 32) (hold : old.size = 32) (h1 : cs.all (·.oneCell') = true)
    (h : ∀ w', Bk w' g E cs → (∀ B, B ≤ g → Below B w w') → (∀ k, k ≠ g → w'.heap[k]? = w.heap[k]?) → wpList Try.prog ops Q rest (a.put o.dst undef) w') : wpList Try.prog ops Q (o :: rest) a w :=
  wpList_store_row hg 147 x y ho g cs hx hy E old hb (by rw [hs]; kernel_rfl) (by rw [hs, hold]) h1
    (h _ (setRow_heap w g old cs E (0, 0) hb) (fun B hB => setRow_below hB cs) (fun k hk => setRow_other w g k cs hk))
theorem wp_copyN (hg : o.guard = none) (d x : Operand) (hop : o.op = Op.call { callee := Callee.builtin Builtin.copy, args := #[d, x], argTypes := #[95, 9] })
    (g : Nat) (hd : a.eval d = .slice (some ⟨g, 0, none⟩) 32 32) (s : ByteArray) (hx : a.eval x = .string s) (E : TypeId) (cur : Array Value) (hb : Bk w g E cur) (hs : cur.size = 32) (hle : s.size ≤ 32)
    (h : ∀ w', Bk w' g E (Lib.byteCells s.data.toList ++ cur.toList.drop s.size).toArray → (∀ B, B ≤ g → Below B w w') → (∀ k, k ≠ g → w'.heap[k]? = w.heap[k]?) → wpList Try.prog ops Q rest (a.put o.dst (.int .i64 s.size)) w') : wpList Try.prog ops Q (o :: rest) a w := by
  refine wpList_plain hg fun K' hK' => ?_
  have hrun := Lib.run_copy_row_string (P := Try.prog) w 95 9 o.type 5 g 0 32 32 s cur E Try.underlying95 (by kernel_rfl) hb hle (by omega)
  unfold Oper.wp execOp
  simp only [hop, resolve, invoke, builtin, Sem.run_bind, Sem.run_pure, Result.andThen_ok, List.map_toArray, List.map_cons, List.map_nil, hd, hx, hrun]
  have e : ((cur.toList.take 0 ++ Lib.byteCells s.data.toList ++ cur.toList.drop (0 + s.size)).toArray) = (Lib.byteCells s.data.toList ++ cur.toList.drop s.size).toArray := by simp
  rw [e]
  exact hK' _ _ (h _ (setRow_heap w g cur _ E (0, 0) hb) (fun B hB => setRow_below hB _) (fun k hk => setRow_other w g k _ hk))
end
/-- The bytes ahead of the first 0. -/
def cutN (k : Nm) : Nm := k.takeWhile fun x => decide (x ≠ 0#8)
theorem cut_len : ∀ k : Nm, (cutN k).length ≤ k.length
  | [] => Nat.le_refl _
  | x :: k => by
    have := cut_len k
    unfold cutN at this ⊢
    rw [List.takeWhile_cons]
    split
    · rw [List.length_cons, List.length_cons]; omega
    · simp
theorem cut_take : ∀ k : Nm, k.take (cutN k).length = cutN k
  | [] => rfl
  | x :: k => by
    have ih := cut_take k
    unfold cutN at ih ⊢
    rw [List.takeWhile_cons]
    split
    · rw [List.length_cons, List.take_succ_cons, ih]
    · rfl
theorem idx_z : ∀ k : Nm, Lib.indexByte (Lib.bytesOf (k.map U8)) 0 = if (cutN k).length < k.length then ((cutN k).length : Int) else -1
  | [] => rfl
  | x :: k => by
    have ih := idx_z k
    show (if (UInt8.ofNat (U8 x).toNat == 0) = true then (0 : Int) else if (Lib.indexByte (Lib.bytesOf (k.map U8)) 0 == -1) = true then -1 else Lib.indexByte (Lib.bytesOf (k.map U8)) 0 + 1) = _
    by_cases hx : x = 0#8
    · subst hx
      have e : cutN (0#8 :: k) = [] := by unfold cutN; rw [List.takeWhile_cons]; simp
      rw [e, if_pos (by decide)]
      simp
    · have e : cutN (x :: k) = x :: cutN k := by unfold cutN; rw [List.takeWhile_cons]; simp [hx]
      have hb : (UInt8.ofNat (U8 x).toNat == 0) = false := by
        rw [beq_eq_false_iff_ne]
        intro h
        apply hx
        have h2 := congrArg UInt8.toNat h
        have hl := x.isLt
        have h3 : (U8 x).toNat = x.toNat := by unfold U8; omega
        rw [h3] at h2
        apply BitVec.eq_of_toNat_eq
        simp at h2 ⊢
        omega
      rw [hb, ih, e]
      have := cut_len k
      simp only [Bool.false_eq_true, if_false, List.length_cons]
      by_cases h : (cutN k).length < k.length
      · have e1 : ((((cutN k).length : Nat) : Int) == -1) = false := by rw [beq_eq_false_iff_ne]; omega
        rw [if_pos h, e1, if_neg (by decide), if_pos (show (cutN k).length + 1 < k.length + 1 by omega)]
        omega
      · rw [if_neg h, if_pos (show ((-1 : Int) == -1) = true by decide), if_neg (show ¬ (cutN k).length + 1 < k.length + 1 by omega)]
theorem ibyte_c (w : World) (g : Nat) (E : TypeId) (k : Nm) (hb : Bk w g E (nC k)) (hk : nW k) : Calls Try.prog 109 #[.slice (some ⟨g, 0, none⟩) 32 32, .int .u8 0] w fun e w' => e = .returned (.int .i64 (if (cutN k).length < 32 then ((cutN k).length : Int) else -1)) ∧ w' = w := by
  have hx : (k.map U8).length = 32 := by rw [List.length_map]; exact hk
  have hc : ∀ i, i < 32 → w.cell? ⟨g, 0 + i, none⟩ = some (.int .u8 ((k.map U8).getD i 0)) := fun i hi => by
    have hi' : i < k.length := by rw [hk]; exact hi
    rw [Nat.zero_add, hb.cell, nC, List.getElem?_toArray, List.getElem?_map, List.getElem?_eq_getElem hi', List.getD_eq_getElem?_getD, List.getElem?_map, List.getElem?_eq_getElem hi']
    rfl
  have hz := idx_z k
  rw [hk] at hz
  rw [← hz]
  have HX := Lib.hid (Lib.run_indexByteSlice (P := Try.prog) (w := w) g 0 32 32 (k.map U8) hx hc 0)
  clear hx hc hb hk hz
  go_enter Try.func109, Try.ntmps109
  go_wp2
  rw [run_callFunc_extern Try.func115 (by kernel_rfl) (by kernel_rfl) (by kernel_rfl) (e := Extern.BytealgIndexByte.indexByte) (by kernel_rfl), HX.out]
  simp only [Result.andThen]
  rw [Oper.upon_value]
  go_wp2
  go_ret
  exact ⟨rfl, rfl⟩
theorem index0_c (w : World) (g q : Nat) (E F : TypeId) (k : Nm) (hb : Bk w g E (nC k)) (hk : nW k) (hq : Bk w q F #[.int .u8 0]) : Calls Try.prog 106 #[.slice (some ⟨g, 0, none⟩) 32 32, .slice (some ⟨q, 0, none⟩) 1 1] w fun e w' => e = .returned (.int .i64 (if (cutN k).length < 32 then ((cutN k).length : Int) else -1)) ∧ w' = w := by
  have HC := Lib.hid (ibyte_c w g E k hb hk)
  obtain ⟨ix, hix⟩ : ∃ ix, ix = (if (cutN k).length < 32 then ((cutN k).length : Int) else -1) := ⟨_, rfl⟩
  rw [← hix] at HC ⊢
  clear hix
  have c0 := hq.cell 0
  clear hb hk hq
  go_enter Try.func106, Try.ntmps106
  go_wp2_with fail
  refine Calls.mono HC.out ?_
  rintro e w' ⟨rfl, rfl⟩
  go_wp2_with fail
  go_ret
  exact ⟨rfl, rfl⟩
theorem cut_reg (Q : Exit → Act → World → Prop) (a0 : Act) (w : World) (A B : Option Addr) (i j : Nat) (hi : i ≤ 32) (hj : Hid ((i : Int) + 1 = (j : Int))) (hj2 : j ≤ 32) (hsz : a0.tmps.size = 23) (sl0 : a0.tmps.getD 0 undef = .slice A 32 32) (sl1 : a0.tmps.getD 1 undef = .slice B 1 1) (sl7 : a0.tmps.getD 7 undef = .int .i64 (i : Int))
    (fin : ∀ (vals : Nat → Value) (w1 : World), Below w.heap.size w w1 → (IsV (.slice A i 32)) (vals 9) w1 → (IsV (.slice (cutA A 32 j) (32 - j) (32 - j))) (vals 10) w1 → (IsV (Go.Value.bool true)) (vals 11) w1 → Q .normal (putD vals [13, 14, 15, 16, 17, 18, 19, 20, 21, 4, 5, 6] 0 a0) w1) :
    (Code.region 3 (regIn Try.f95 3) true).wp Try.prog Q a0 w := by
  refine region_by (G := fun w w1 => Below w.heap.size w w1) [IsV (.slice A 32 32),
    IsV (.int .i64 (i : Int)),
    IsV (.slice A i 32),
    IsV (.slice A 32 32),
    IsV (.int .i64 (i : Int)),
    IsV (.slice B 1 1),
    IsV (.int .i64 1),
    IsV (.int .i64 (j : Int)),
    IsV (.slice (cutA A 32 j) (32 - j) (32 - j)),
    IsV (.slice A i 32),
    IsV (.slice (cutA A 32 j) (32 - j) (32 - j)),
    IsV (Go.Value.bool true)]
    [13, 14, 15, 16, 17, 18, 19, 20, 21, 4, 5, 6] (by kernel_rfl) (Gw.drew _) Gw.trans (by rw [hsz]; kernel_rfl) (by kernel_rfl) ?_ ?_ ?_
  · intro f hf
    simp only [List.mem_cons, List.not_mem_nil, or_false] at hf
    rcases hf with rfl | rfl | rfl | rfl | rfl | rfl | rfl | rfl | rfl | rfl | rfl | rfl <;> intro v a b h g <;> first | exact IsV.mono h
  · refine ⟨?_, ?_, ?_, ?_, ?_, ?_, ?_, ?_, ?_, ?_, ?_, ?_, trivial⟩
    · exact owes_mv 0 (by kernel_rfl) (by kernel_rfl) (by kernel_rfl) sl0 (fun _ => rfl)
    · exact owes_mv 7 (by kernel_rfl) (by kernel_rfl) (by kernel_rfl) sl7 (fun _ => rfl)
    · refine owes_v (Go.Op.slice 95 (Go.Operand.tmp 13) none (some (Go.Operand.tmp 14)) none) 95 [0, 1] (by kernel_rfl) (by kernel_rfl) (by kernel_rfl) rfl fun vals w1 ρ hG hF hρ hcst hfun => ?_
      have e13 : ρ (.tmp 13) = .slice A 32 32 := ((hρ 13).trans (slotJ [0, 1] (by rw [hsz]; decide) (by kernel_rfl))).trans (hF 0 (by decide))
      have e14 : ρ (.tmp 14) = .int .i64 (i : Int) := ((hρ 14).trans (slotJ [0, 1] (by rw [hsz]; decide) (by kernel_rfl))).trans (hF 1 (by decide))
      have p1 : (0 : Int) ≤ (i : Int) := by omega
      have p2 : (i : Int) ≤ (32 : Int) := by omega
      clear hρ hF hcst hfun sl0 sl1 sl7 fin
      exact opv_val (by go_simp <;> rfl) ⟨gw_self _, rfl⟩
    · exact owes_mv 0 (by kernel_rfl) (by kernel_rfl) (by kernel_rfl) sl0 (fun _ => rfl)
    · exact owes_mv 7 (by kernel_rfl) (by kernel_rfl) (by kernel_rfl) sl7 (fun _ => rfl)
    · exact owes_mv 1 (by kernel_rfl) (by kernel_rfl) (by kernel_rfl) sl1 (fun _ => rfl)
    · refine owes_v (Go.Op.call { callee := Go.Callee.builtin Go.Builtin.len, args := #[Go.Operand.tmp 18], argTypes := #[95] }) 3 [5] (by kernel_rfl) (by kernel_rfl) (by kernel_rfl) rfl fun vals w1 ρ hG hF hρ hcst hfun => ?_
      have e18 : ρ (.tmp 18) = .slice B 1 1 := ((hρ 18).trans (slotJ [5] (by rw [hsz]; decide) (by kernel_rfl))).trans (hF 5 (by decide))
      clear hρ hF hcst hfun sl0 sl1 sl7 fin
      exact opv_val (by go_simp <;> rfl) ⟨gw_self _, rfl⟩
    · refine owes_v (Go.Op.binOp Go.BinOp.add 3 (Go.Operand.tmp 17) (Go.Operand.tmp 19) 3) 3 [4, 6] (by kernel_rfl) (by kernel_rfl) (by kernel_rfl) rfl fun vals w1 ρ hG hF hρ hcst hfun => ?_
      have e17 : ρ (.tmp 17) = .int .i64 (i : Int) := ((hρ 17).trans (slotJ [4, 6] (by rw [hsz]; decide) (by kernel_rfl))).trans (hF 4 (by decide))
      have e19 : ρ (.tmp 19) = .int .i64 1 := ((hρ 19).trans (slotJ [4, 6] (by rw [hsz]; decide) (by kernel_rfl))).trans (hF 6 (by decide))
      have k : IntKind.i64.wrap ((i : Int) + 1) = (j : Int) := by rw [hj.out]; exact wrapIn (by omega) (by omega)
      clear hρ hF hcst hfun sl0 sl1 sl7 fin
      exact opv_val (by go_simp <;> rfl) ⟨gw_self _, rfl⟩
    · refine owes_v (Go.Op.slice 95 (Go.Operand.tmp 16) (some (Go.Operand.tmp 20)) none none) 95 [3, 7] (by kernel_rfl) (by kernel_rfl) (by kernel_rfl) rfl fun vals w1 ρ hG hF hρ hcst hfun => ?_
      have e16 : ρ (.tmp 16) = .slice A 32 32 := ((hρ 16).trans (slotJ [3, 7] (by rw [hsz]; decide) (by kernel_rfl))).trans (hF 3 (by decide))
      have e20 : ρ (.tmp 20) = .int .i64 (j : Int) := ((hρ 20).trans (slotJ [3, 7] (by rw [hsz]; decide) (by kernel_rfl))).trans (hF 7 (by decide))
      have p1 : (0 : Int) ≤ (j : Int) := by omega
      have p2 : (j : Int) ≤ (32 : Int) := by omega
      have p3 := sliced_cut A j 32 32
      clear hρ hF hcst hfun sl0 sl1 sl7 fin
      exact opv_val (by go_simp <;> rfl) ⟨gw_self _, rfl⟩
    · exact owes_mvj 2 15 (by kernel_rfl) (by kernel_rfl) (by kernel_rfl) (by kernel_rfl) (by rw [hsz]; decide) (fun v w h => h)
    · exact owes_mvj 8 21 (by kernel_rfl) (by kernel_rfl) (by kernel_rfl) (by kernel_rfl) (by rw [hsz]; decide) (fun v w h => h)
    · refine owes_v (Go.Op.assign (Go.Operand.const (Go.Value.bool true))) 4 [] (by kernel_rfl) (by kernel_rfl) (by kernel_rfl) rfl fun vals w1 ρ hG hF hρ hcst hfun => ?_
      clear hρ hF hfun sl0 sl1 sl7 fin
      exact opv_val (by go_simp <;> rfl) ⟨gw_self _, rfl⟩
  · intro vals w1 hG hF
    exact fin vals w1 hG (hF 9 (by decide +kernel)) (hF 10 (by decide +kernel)) (hF 11 (by decide +kernel))
theorem cut0_c (w : World) (g q : Nat) (E F : TypeId) (k : Nm) (hb : Bk w g E (nC k)) (hk : nW k) (hq : Bk w q F #[.int .u8 0]) : Calls Try.prog 95 #[.slice (some ⟨g, 0, none⟩) 32 32, .slice (some ⟨q, 0, none⟩) 1 1] w fun e w' => ∃ v f, e = .returned (.tuple #[.slice (some ⟨g, 0, none⟩) (cutN k).length 32, v, .bool f]) ∧ Below w.heap.size w w' := by
  have HI := Lib.hid (index0_c w g q E F k hb hk hq)
  have hl := cut_len k
  rw [hk] at hl
  obtain ⟨n, hn⟩ : ∃ n, n = (cutN k).length := ⟨_, rfl⟩
  rw [← hn] at HI hl ⊢
  clear hn hb hk hq
  by_cases h : n < 32
  · rw [if_pos h] at HI
    have p1 : (0 : Int) ≤ (n : Int) := by omega
    go_enter Try.func95, Try.ntmps95
    go_wp2_with fail
    refine Calls.mono HI.out ?_
    rintro e w' ⟨rfl, rfl⟩
    go_wp2_with fail
    refine cut_reg _ _ _ (some ⟨g, 0, none⟩) (some ⟨q, 0, none⟩) n (n + 1) hl (Lib.hid (by omega)) (by omega) rfl rfl rfl rfl ?_
    intro vals w1 hG h4 h5 h6
    unfold IsV at h4 h5 h6
    simp only [putD, Act.put, List.setIfInBounds_toArray, List.set_cons_zero, List.set_cons_succ, h4, h5, h6]
    have HB := Lib.hid hG
    clear h4 h5 h6 hG
    go_wp2_with fail
    go_ret3
    exact ⟨_, _, rfl, HB.out⟩
  · have e : n = 32 := by omega
    subst e
    rw [if_neg h] at HI
    clear h hl
    go_enter Try.func95, Try.ntmps95
    go_wp2_with fail
    refine Calls.mono HI.out ?_
    rintro e w' ⟨rfl, rfl⟩
    go_wp2_with fail
    go_ret3
    exact ⟨_, _, rfl, Below.refl _ _⟩
theorem string_c (w : World) (k : Nm) (hk : nW k) : Calls Try.prog 81 #[nV k] w (RetP (.string (strB (cutN k))) w) := by
  have HS := Lib.hid (nC_size hk)
  have HK := Lib.hid hk
  obtain ⟨arr, harr⟩ : ∃ arr, arr = nC k := ⟨_, rfl⟩
  have HA := Lib.hid harr
  unfold nV
  rw [← harr]
  rw [← harr] at HS
  have HB := Lib.hid (Bk.new w 147 arr)
  have HW := Lib.hid (Gw.alloc w (.cells arr 147))
  clear harr hk
  go_enter Try.func81, Try.ntmps81
  go_wp2_with fail
  refine Calls.mono (cut0_c _ w.heap.size (w.heap.size + 1) 147 5 k (by rw [← HA.out]; exact HB.out.alloc _) HK.out (by have q := Bk.new (w.alloc (.cells arr 147)) 5 #[.int .u8 0]; simpa using q)) ?_
  rintro e w1 ⟨v, f, rfl, b1⟩
  have hrd : Rd b8 w1 w1.heap.size (some ⟨w.heap.size, 0, none⟩) (cutN k) := by
    have q := nrd (k := k) (by rw [← HA.out]; exact (HB.out.alloc _).below b1 (HB.out.alloc _).lt) (Nat.lt_of_lt_of_le (HB.out.alloc (.cells #[.int .u8 0] 5)).lt b1.size)
    have := q.take (cutN k).length
    rwa [cut_take] at this
  have kc := str_conv (cutN k) (some ⟨w.heap.size, 0, none⟩) 32 _ w1 hrd
  have HF := Lib.hid (show Below w.heap.size w w1 from (HW.out.trans ((Gw.alloc _ _).mono (by simp))).trans (b1.mono (by simp; omega)))
  clear b1 hrd
  go_wp2_with fail
  go_ret
  exact ⟨rfl, HF.out⟩
end Go.Proofs.Ytaminpfgkegibaa
/- What table.Fix answers. No conditions. -/
namespace Go.Proofs.Ytaminpfgkegibaa
set_option linter.unusedVariables false
set_option linter.unusedSimpArgs false
open Go.RowKit Go.Maps
set_option maxRecDepth 100000
set_option maxHeartbeats 800000
theorem strB_size (bs : Nm) : (strB bs).size = bs.length := by
  show (strL bs).toArray.size = _
  simp [strL]
theorem strB_cells (bs : Nm) : Lib.byteCells (strB bs).data.toList = bs.map b8 := by
  show Lib.byteCells (strL bs).toArray.toList = _
  unfold Lib.byteCells strL
  simp only [List.map_map]
  rfl
theorem str_eq (x y : Nm) : ((strB x).toList == (strB y).toList) = decide (x = y) := by
  by_cases h : x = y
  · subst h; simp
  · have hne : ¬ (strB x).toList = (strB y).toList := fun e => h (strB_inj (by
      rw [ByteArray.toList_eq, ByteArray.toList_eq] at e
      exact ByteArray.ext (Array.toList_inj.1 e)))
    simp [h, hne]
/-- A text as a name. -/
def padNm (bs : Nm) : Nm := bs ++ List.replicate (32 - bs.length) 0#8
theorem padNm_w {bs : Nm} (h : bs.length ≤ 32) : nW (padNm bs) := by
  unfold nW padNm
  rw [List.length_append, List.length_replicate]
  omega
theorem nC_list (k : Nm) : (nC k).toList = k.map b8 := by unfold nC; simp
theorem pad_cells {bs : Nm} (h : bs.length ≤ 32) : (Lib.byteCells (strB bs).data.toList ++ (nC zN).toList.drop (strB bs).size).toArray = nC (padNm bs) := by
  rw [strB_cells, strB_size, nC_list]
  unfold nC padNm zN
  rw [List.map_append, List.map_replicate, List.map_replicate, List.drop_replicate]
def fixR (bs : Nm) (e1 e2 : Bool) : Value := match e1, e2 with
  | false, true => .tuple #[nV (padNm bs), .int .i64 0]
  | _, _ => .tuple #[nV zN, .int .i64 4]
theorem fix_res {tmps : Array Value} {W : World} {g : Nat} {E : TypeId} {k : Nm} {y : Value} (hk : nW k) (hb : Bk W g E (nC k)) (h2 : tmps.getD 2 undef = .pointer (some ⟨g, 0, none⟩)) (h3 : tmps.getD 3 undef = y) :
    (results Try.f80 tmps).run Try.prog W = .ok (.tuple #[nV k, y]) W := by
  have hl := run_loadVar_row (P := Try.prog) W g E 147 (nC k) (0, 0) _ hb Try.underlying147 rfl (by rw [nC_size hk]; kernel_rfl)
  have h2' : tmps[2]?.getD undef = .pointer (some ⟨g, 0, none⟩) := by simpa using h2
  have h3' : tmps[3]?.getD undef = y := by simpa using h3
  unfold nV
  simp [results, Try.results80, h2', h3', asAddr, hl]
theorem ldN {w : World} {g : Nat} {E : TypeId} {cs : Array Value} (hb : Bk w g E cs) (hs : cs.size = 32) : (loadVar 147 ⟨g, 0, none⟩).run Try.prog w = .ok (.agg cs) w :=
  run_loadVar_row w g E 147 cs (0, 0) _ hb Try.underlying147 rfl (by rw [hs]; kernel_rfl)
theorem fix_long (bs : Nm) (w : World) (h : 32 < bs.length) : Calls Try.prog 80 #[.string (strB bs)] w (RetP (.tuple #[nV zN, .int .i64 4]) w) := by
  obtain ⟨s, hs⟩ : ∃ s, s = strB bs := ⟨_, rfl⟩
  have hz : s.size = bs.length := by rw [hs]; exact strB_size bs
  rw [← hs]
  have q1 : decide ((32 : Int) < (s.size : Int)) = true := by simp; omega
  obtain ⟨za, hza⟩ : ∃ za, za = nC zN := ⟨_, rfl⟩
  have hzero := zeroN
  rw [← hza] at hzero
  have HZ := Lib.hid hza
  have HB := Lib.hid (Bk.new w 147 za)
  have HW := Lib.hid (Gw.alloc w (.cells za 147))
  have HZS := Lib.hid (show za.size = 32 from by rw [hza]; exact nC_size zN_w)
  have HZO := Lib.hid (show za.all (·.oneCell') = true from by rw [hza]; exact nC_one zN)
  clear h hs hz hza
  go_enter Try.func80, Try.ntmps80
  go_wp2_with (refine wp_storeN rfl _ _ rfl w.heap.size za rfl rfl 147 za (HB.out.alloc _) HZS.out HZS.out HZO.out ?_; intro w3 k3 b3 o3)
  refine bodyPost_ret (v := .tuple #[nV zN, .int .i64 4]) (fix_res zN_w (by rw [← HZ.out]; exact k3) rfl rfl) rfl ⟨rfl, ?_⟩
  exact (HW.out.trans ((Gw.alloc _ _).mono (by simp))).trans (b3 _ (Nat.le_refl _))
theorem fix_c (bs : Nm) (w : World) (h : bs.length ≤ 32) (e1 e2 : Bool) (h1 : e1 = decide (padNm bs = zN)) (h2 : e2 = decide (cutN (padNm bs) = bs)) : Calls Try.prog 80 #[.string (strB bs)] w (RetP (fixR bs e1 e2) w) := by
  obtain ⟨s, hs⟩ : ∃ s, s = strB bs := ⟨_, rfl⟩
  have hz : s.size = bs.length := by rw [hs]; exact strB_size bs
  have hpc := pad_cells h
  have hpw := padNm_w h
  have HST := Lib.hid (fun W => string_c W (padNm bs) hpw)
  have hse := str_eq (cutN (padNm bs)) bs
  rw [← h2] at hse
  rw [← hs] at hpc hse ⊢
  have q1 : decide ((32 : Int) < (s.size : Int)) = false := by simp; omega
  obtain ⟨za, hza⟩ : ∃ za, za = nC zN := ⟨_, rfl⟩
  obtain ⟨pa, hpa⟩ : ∃ pa, pa = nC (padNm bs) := ⟨_, rfl⟩
  have hzero := zeroN
  have heq := eqN (padNm bs) zN hpw zN_w
  rw [← hza] at hzero hpc heq
  rw [← hpa] at hpc heq
  rw [← h1] at heq
  unfold nV at HST
  rw [← hpa] at HST
  have HZ := Lib.hid hza
  have HP := Lib.hid hpa
  have HPW := Lib.hid hpw
  have HZS := Lib.hid (show za.size = 32 from by rw [hza]; exact nC_size zN_w)
  have HZO := Lib.hid (show za.all (·.oneCell') = true from by rw [hza]; exact nC_one zN)
  have HPS := Lib.hid (show pa.size = 32 from by rw [hpa]; exact nC_size hpw)
  have HPO := Lib.hid (show pa.all (·.oneCell') = true from by rw [hpa]; exact nC_one _)
  have HSZ := Lib.hid (show s.size ≤ 32 from by omega)
  have HPC := Lib.hid hpc
  obtain ⟨cs, hcs⟩ : ∃ cs, cs = strB (cutN (padNm bs)) := ⟨_, rfl⟩
  rw [← hcs] at hse HST
  have HB := Lib.hid (show Bk ((w.alloc (.cells za 147)).alloc (.cells za 147)) w.heap.size 147 za ∧ Bk ((w.alloc (.cells za 147)).alloc (.cells za 147)) (w.heap.size + 1) 147 za ∧ Below w.heap.size w ((w.alloc (.cells za 147)).alloc (.cells za 147)) from by
    refine ⟨(Bk.new w _ _).alloc _, ?_, (Gw.alloc w _).trans ((Gw.alloc _ _).mono (by simp))⟩
    have q := Bk.new (w.alloc (.cells za 147)) 147 za
    simpa using q)
  obtain ⟨n1, hn1⟩ : ∃ n, n = w.heap.size + 1 := ⟨_, rfl⟩
  have HN := Lib.hid (show w.heap.size ≤ n1 ∧ w.heap.size ≠ n1 from by omega)
  clear h hs hz hza hpa hpc hpw h1 h2 hcs
  cases e1
  · cases e2
    · go_enter Try.func80, Try.ntmps80
      go_wp2_with (first
        | (refine wp_copyN rfl _ _ rfl (w.heap.size + 1) rfl s rfl 147 za HB.out.2.1 HZS.out HSZ.out ?_; intro w3 k3 b3 o3; rw [HPC.out] at k3; have HK3 := Lib.hid k3; have HB3 := Lib.hid (HB.out.2.2.trans (b3 w.heap.size (by omega))); have HR3 := Lib.hid (show Bk w3 w.heap.size 147 za from (o3 _ (by omega)).trans HB.out.1); clear k3 b3 o3)
        | (refine wp_loadG rfl _ rfl (w.heap.size + 1) rfl 147 pa HK3.out HPS.out ?_))
      refine Calls.mono (HST.out _) ?_
      rintro e w4 ⟨rfl, b4⟩
      have HR4 := Lib.hid (HR3.out.below b4 HR3.out.lt)
      have HB4 := Lib.hid (HB3.out.trans (b4.mono HB3.out.size))
      clear b4
      go_wp2_with (refine wp_storeN rfl _ _ rfl w.heap.size za rfl rfl 147 za HR4.out HZS.out HZS.out HZO.out ?_; intro w5 k5 b5 o5)
      refine bodyPost_ret (v := .tuple #[nV zN, .int .i64 4]) (fix_res zN_w (by rw [← HZ.out]; exact k5) rfl rfl) rfl ⟨rfl, ?_⟩
      exact HB4.out.trans (b5 _ (Nat.le_refl _))
    · go_enter Try.func80, Try.ntmps80
      go_wp2_with (first
        | (refine wp_copyN rfl _ _ rfl (w.heap.size + 1) rfl s rfl 147 za HB.out.2.1 HZS.out HSZ.out ?_; intro w3 k3 b3 o3; rw [HPC.out] at k3; have HK3 := Lib.hid k3; have HB3 := Lib.hid (HB.out.2.2.trans (b3 w.heap.size (by omega))); have HR3 := Lib.hid (show Bk w3 w.heap.size 147 za from (o3 _ (by omega)).trans HB.out.1); clear k3 b3 o3)
        | (refine wp_loadG rfl _ rfl (w.heap.size + 1) rfl 147 pa HK3.out HPS.out ?_))
      refine Calls.mono (HST.out _) ?_
      rintro e w4 ⟨rfl, b4⟩
      have HR4 := Lib.hid (HR3.out.below b4 HR3.out.lt)
      have HK4 := Lib.hid (HK3.out.below b4 HK3.out.lt)
      have HB4 := Lib.hid (HB3.out.trans (b4.mono HB3.out.size))
      clear b4
      go_wp2_with (first
        | (refine wp_loadN rfl _ rfl (w.heap.size + 1) rfl 147 pa HK4.out HPS.out ?_)
        | (refine wp_storeN rfl _ _ rfl w.heap.size pa rfl rfl 147 za HR4.out HPS.out HZS.out HPO.out ?_; intro w5 k5 b5 o5))
      refine bodyPost_ret (v := .tuple #[nV (padNm bs), .int .i64 0]) (fix_res HPW.out (by rw [← HP.out]; exact k5) rfl rfl) rfl ⟨rfl, ?_⟩
      exact HB4.out.trans (b5 _ (Nat.le_refl _))
  · go_enter Try.func80, Try.ntmps80
    go_wp2_with (first
      | (refine wp_copyN rfl _ _ rfl (w.heap.size + 1) rfl s rfl 147 za HB.out.2.1 HZS.out HSZ.out ?_; intro w3 k3 b3 o3; rw [HPC.out] at k3; have HK3 := Lib.hid k3; have HB3 := Lib.hid (HB.out.2.2.trans (b3 w.heap.size (by omega))); have HR3 := Lib.hid (show Bk w3 w.heap.size 147 za from (o3 _ (by omega)).trans HB.out.1); clear k3 b3 o3)
      | (refine wp_loadG rfl _ rfl (w.heap.size + 1) rfl 147 pa HK3.out HPS.out ?_)
      | (refine wp_storeN rfl _ _ rfl w.heap.size za rfl rfl 147 za HR3.out HZS.out HZS.out HZO.out ?_; intro w5 k5 b5 o5))
    refine bodyPost_ret (v := .tuple #[nV zN, .int .i64 4]) (fix_res zN_w (by rw [← HZ.out]; exact k5) rfl rfl) rfl ⟨by cases e2 <;> rfl, ?_⟩
    exact HB3.out.trans (b5 _ (Nat.le_refl _))
end Go.Proofs.Ytaminpfgkegibaa
