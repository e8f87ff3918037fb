/- Texts joined: CkA CkB CkC CkD CkE ObL CrcB CrcC. -/
import Derived.Test.YtaminpfgkegibaaXb3
import Derived.Test.YtaminpfgkegibaaFiA
import Derived.Test.YtaminpfgkegibaaCrcA
import Derived.Deep.RegionHeld3
/- What check.look makes, in memory; tell. Conditions: lengths. -/
namespace Go.Proofs.Ytaminpfgkegibaa
set_option linter.unusedVariables false
set_option linter.unusedSimpArgs false
open Go.RowKit Go.Maps
set_option maxHeartbeats 2000000
set_option maxRecDepth 100000
theorem Bk.grownK {w w' : World} {g : Nat} {E : TypeId} {cs : Array Value} {row : Option Nat} (h : Bk w g E cs) (hg : w.grownBy w' row) (hne : some g ≠ row) : Bk w' g E cs := (hg.block g h.lt hne).trans h
def sizR (ws : List (BitVec 64)) (p : List Nat) : List (Int × Int) := p.map fun a : Nat => ((a : Int), (szX (ws.getD a 0#64) : Int))
/-- A looked in memory. -/
structure LkAt (W : World) (B Xb sv mb : Nat) (rv lv : Value) (ws : List (BitVec 64)) (p : List Nat) (fs : List (Nat × ByteArray)) : Prop where
  blk : Bk W Xb 72 #[.pointer (some ⟨sv, 0, none⟩), rv, .map (some mb), lv]
  row : Ow iN 3 W B rv p
  mp : MapIs W (some mb) (sizR ws p)
  fr : FR W B lv fs
  ne : Xb ≠ mb
  ap : ∀ k, (k = Xb ∨ k = mb) → rv.ownBlock ≠ some k ∧ lv.ownBlock ≠ some k
  ap2 : ∀ k, rv.ownBlock = some k → lv.ownBlock ≠ some k
  BX : B ≤ Xb ∧ B ≤ mb
section
variable {W W' : World} {B Xb sv mb : Nat} {rv lv : Value} {ws : List (BitVec 64)} {p : List Nat} {fs : List (Nat × ByteArray)}
theorem LkAt.below (h : LkAt W B Xb sv mb rv lv ws p fs) (hb : Below W.heap.size W W') : LkAt W' B Xb sv mb rv lv ws p fs :=
  ⟨h.blk.below hb h.blk.lt, h.row.below hb, h.mp.kept (Kept.of_below hb (fun _ => False)) (fun _ _ f => f), h.fr.below hb, h.ne, h.ap, h.ap2, h.BX⟩
theorem LkAt.lts (h : LkAt W B Xb sv mb rv lv ws p fs) : Xb < W.heap.size ∧ mb < W.heap.size ∧ (∀ k, rv.ownBlock = some k → B ≤ k ∧ k < W.heap.size) ∧ (∀ k, lv.ownBlock = some k → B ≤ k ∧ k < W.heap.size) ∧ B ≤ W.heap.size := by
  have h1 := h.blk.lt
  have h2 := h.BX
  exact ⟨h1, h.mp.lt mb rfl, fun k hk => h.row.lt k hk, fun k hk => h.fr.lt k hk, by omega⟩
theorem LkAt.four (h : LkAt W B Xb sv mb rv lv ws p fs) : W.cell? ⟨Xb, 0, none⟩ = some (.pointer (some ⟨sv, 0, none⟩)) ∧ W.cell? ⟨Xb, 1, none⟩ = some rv ∧ W.cell? ⟨Xb, 2, none⟩ = some (.map (some mb)) ∧ W.cell? ⟨Xb, 3, none⟩ = some lv := ⟨h.blk.cell 0, h.blk.cell 1, h.blk.cell 2, h.blk.cell 3⟩
def TellP (w : World) (B Xb sv mb : Nat) (rv lv : Value) (ws : List (BitVec 64)) (p : List Nat) (fs : List (Nat × ByteArray)) (r : Ending) (w' : World) : Prop :=
  r = .returned (.tuple #[]) ∧ ∃ lv', LkAt w' B Xb sv mb rv lv' ws p fs ∧ Kept (fun k => k = Xb ∨ lv.ownBlock = some k) w w' ∧ ∀ k, lv'.ownBlock = some k → lv.ownBlock = some k ∨ w.heap.size ≤ k
theorem tell_c (w : World) (h : LkAt w B Xb sv mb rv lv ws p fs) (hl : fs.length ≤ 10000) (a : Nat) (s : ByteArray) :
    Calls Try.prog 49 #[.pointer (some ⟨Xb, 0, none⟩), .int .i64 (a : Int), .string s] w (TellP w B Xb sv mb rv lv ws p (fs ++ [(a, s)])) := by
  obtain ⟨c0, c1, c2, c3⟩ := h.four
  have hX := h.blk.lt
  have H := Lib.hid h
  have HL := Lib.hid (show fs.length + [(a, s)].length ≤ 100000 by simp; omega)
  have HB := Lib.hid h.lts.2.2.2.2
  obtain ⟨lA, lc, e, _⟩ := h.fr.slice_
  obtain ⟨nf, hnf⟩ : ∃ n, n = fs.length := ⟨_, rfl⟩
  rw [← hnf] at e
  subst e
  clear h hl hnf
  go_enter Try.func49, Try.ntmps49
  go_wp2_with (at_builtin; refine wp_appF rfl (.tmp 10) (.tmp 14) rfl rfl (H.out.fr.below (Gw.alloc w _)) (some ⟨w.heap.size, 0, none⟩) 1 1 [(a, s)] rfl rfl (rdF_new w a s) HL.out (Nat.le_trans HB.out (Gw.alloc w _).size) ?_; intro v6 w6 ho6 hb6 hg6 hv6; obtain ⟨A6, c6, e6, _⟩ := ho6.slice_; obtain ⟨n6, hn6⟩ : ∃ n, n = (fs ++ [(a, s)]).length := ⟨_, rfl⟩; rw [← hn6] at e6; subst e6; clear hn6; have hk6 := (H.out.blk.alloc (.cells #[.int .i64 (a : Int), .string s] 55)).grownK hg6 (fun e => (H.out.ap Xb (.inl rfl)).2 e.symm); have HK := Lib.hid (And.intro ho6 (And.intro (show World.grownBy (w.alloc (.cells #[.int .i64 (a : Int), .string s] 55)) w6 (Value.slice lA nf lc).ownBlock from hg6) (And.intro (show (Value.slice A6 n6 c6).ownBlock = (Value.slice lA nf lc).ownBlock ∨ (Value.slice A6 n6 c6).ownBlock = some (w.alloc (.cells #[.int .i64 (a : Int), .string s] 55)).heap.size from hv6) hk6))); have j3 := hk6.cell 3; have jf := hk6.free 3; have jX := hk6.lt; clear ho6 hb6 hg6 hv6 hk6 c0 c1 c2 c3)
  go_end0
  obtain ⟨ho6, hg6, hv6, hk6⟩ := HK.out
  obtain ⟨l1, l2, l3, l4, l5⟩ := H.out.lts
  have e1 : (w.alloc (.cells #[.int .i64 (a : Int), .string s] 55)).heap.size = w.heap.size + 1 := by unfold World.alloc; simp
  have KA := Kept.alloc (fun k => k = Xb ∨ (Value.slice lA nf lc).ownBlock = some k) w (.cells #[.int .i64 (a : Int), .string s] 55)
  have K1 := Kept.grown hg6
  have K2 := Kept.set w6 Xb 3 (.slice A6 n6 c6)
  have hA := H.out.below (Gw.alloc w (.cells #[.int .i64 (a : Int), .string s] 55))
  have a1 := H.out.ap Xb (.inl rfl)
  have a2 := H.out.ap mb (.inr rfl)
  have m6 : ∀ k, (Value.slice A6 n6 c6).ownBlock = some k → (Value.slice lA nf lc).ownBlock = some k ∨ k = w.heap.size + 1 := fun k hk => by
    rcases hv6 with e | e
    · exact .inl (e ▸ hk)
    · rw [e] at hk
      injection hk with hk
      exact .inr (by omega)
  refine ⟨rfl, .slice A6 n6 c6, ⟨hk6.set 3 (.slice A6 n6 c6), K2.ow (K1.ow hA.row (fun k hk e => H.out.ap2 k hk e)) (fun k hk e => a1.1 (e ▸ hk)), (hA.mp.kept K1 (fun b hb e => by injection hb with hb; exact a2.2 (hb ▸ e))).kept K2 (fun b hb e => by injection hb with hb; exact H.out.ne (e.symm.trans hb.symm)), ho6.kept K2 (fun k hk e => ?_), H.out.ne, fun k hk => ⟨(H.out.ap k hk).1, fun e => ?_⟩, fun k hk e => ?_, H.out.BX⟩, (KA.trans (K1.more fun k hk => .inr hk)).trans (K2.more fun k hk => .inl hk), fun k hk => (m6 k hk).imp id (fun h => by omega)⟩
  · rcases m6 k hk with h | h
    · exact a1.2 (e ▸ h)
    · omega
  · rcases m6 k e with h | h
    · exact (H.out.ap k hk).2 h
    · rcases hk with hk | hk <;> omega
  · rcases m6 k e with h | h
    · exact H.out.ap2 k hk h
    · have := (l3 k hk).2; omega
end
end Go.Proofs.Ytaminpfgkegibaa
/- check.looked: leads. Conditions: right places. -/
namespace Go.Proofs.Ytaminpfgkegibaa
set_option linter.unusedVariables false
set_option linter.unusedSimpArgs false
open Go.RowKit Go.Maps
set_option maxHeartbeats 2000000
set_option maxRecDepth 100000
theorem siz_look (ws : List (BitVec 64)) : ∀ (p : List Nat) (a : Nat), lookI (sizR ws p) (a : Int) = if a ∈ p then some (szX (ws.getD a 0#64) : Int) else none
  | [], a => rfl
  | x :: p, a => by
    show (if ((x : Nat) : Int) = (a : Int) then some (szX (ws.getD x 0#64) : Int) else lookI (sizR ws p) (a : Int)) = _
    by_cases e : x = a
    · subst e
      rw [if_pos rfl, if_pos (by simp)]
    · rw [if_neg (by omega), siz_look ws p a]
      by_cases h : a ∈ p
      · rw [if_pos h, if_pos (by simp [h])]
      · rw [if_neg h, if_neg (by simp [h]; exact fun h => e h.symm)]
theorem siz_neg (ws : List (BitVec 64)) (p : List Nat) (z : Int) (hz : z < 0) : lookI (sizR ws p) z = none := by
  apply look_none
  intro q hq
  obtain ⟨a, _, rfl⟩ := List.mem_map.1 hq
  show (a : Int) ≠ z
  omega
section
variable {W W' : World} {B Xb sv mb : Nat} {rv lv : Value} {ws : List (BitVec 64)} {p : List Nat} {fs : List (Nat × ByteArray)}
theorem leads_c (w : World) (h : LkAt w B Xb sv mb rv lv ws p fs) (x : BitVec 64) (hp : ∀ a ∈ p, a < 8192 ∧ 1 ≤ szX (ws.getD a 0#64)) :
    Calls Try.prog 53 #[.pointer (some ⟨Xb, 0, none⟩), .int .u64 (U64 x)] w (RetP (.bool (decide (x.toNat = 0 ∨ (1 ≤ x.toNat ∧ x.toNat - 1 ∈ p)))) w) := by
  obtain ⟨R, hR⟩ : ∃ R, R = decide (x.toNat = 0 ∨ (1 ≤ x.toNat ∧ x.toNat - 1 ∈ p)) := ⟨_, rfl⟩
  rw [← hR]
  obtain ⟨c0, c1, c2, c3⟩ := h.four
  have hX := h.blk.lt
  obtain ⟨k, hk⟩ : ∃ k : Nat, k = x.toNat := ⟨_, rfl⟩
  have hkl : k < 18446744073709551616 := by rw [hk]; exact x.isLt
  rw [← hk] at hR
  have e0 : U64 x = (k : Int) := by rw [hk]; rfl
  rw [e0]
  have HMp := Lib.hid h.mp
  clear h c0 c1 c3 hk e0
  by_cases h0 : k = 0
  · have HR := Lib.hid (show R = true by rw [hR]; exact decide_eq_true (.inl h0))
    subst h0
    clear hR hp
    go_enter Try.func53, Try.ntmps53
    go_wp2_with fail
    go_ret
    rw [HR.out]
    exact ⟨rfl, Below.refl _ _⟩
  · have k1 : ¬ (k : Int) = 0 := by omega
    have k2 : (1 : Int) ≤ (k : Int) := by omega
    by_cases hs : k ≤ 9223372036854775808
    · have hlk := HMp.out.look (k := (k : Int) - 1) (by simp [Lit.wf, IntKind.min, IntKind.max, IntKind.signed, IntKind.bits]; omega)
      have k3 : (k : Int) ≤ 9223372036854775808 := by omega
      have ek : (k : Int) - 1 = ((k - 1 : Nat) : Int) := by omega
      rw [ek, siz_look] at hlk
      by_cases hm : k - 1 ∈ p
      · have HR := Lib.hid (show R = true by rw [hR]; exact decide_eq_true (.inr ⟨by omega, hm⟩))
        have hz := (hp _ hm).2
        rw [if_pos hm] at hlk
        have hlk : (Instr.lookup 70 (.map (some mb)) (.int .i64 ((k : Int) - 1)) false).run Try.prog w = .ok (.int .i64 (szX (ws.getD (k - 1) 0#64) : Int)) w := by rw [ek]; exact hlk
        obtain ⟨sz, hsz⟩ : ∃ sz, sz = szX (ws.getD (k - 1) 0#64) := ⟨_, rfl⟩
        rw [← hsz] at hlk hz
        have hz0 : (0 : Int) < (sz : Int) := by omega
        clear hR hp hsz ek
        go_enter Try.func53, Try.ntmps53
        go_wp2_with fail
        go_ret
        rw [HR.out]
        exact ⟨by simp; omega, Below.refl _ _⟩
      · have HR := Lib.hid (show R = false by rw [hR]; exact decide_eq_false (fun h => h.elim (fun h => by omega) (fun h => hm h.2)))
        rw [if_neg hm] at hlk
        have hlk : (Instr.lookup 70 (.map (some mb)) (.int .i64 ((k : Int) - 1)) false).run Try.prog w = .ok (.int .i64 0) w := by rw [ek]; exact hlk
        clear hR hp ek
        go_enter Try.func53, Try.ntmps53
        go_wp2_with fail
        go_ret
        rw [HR.out]
        exact ⟨rfl, Below.refl _ _⟩
    · have HR := Lib.hid (show R = false by rw [hR]; exact decide_eq_false (fun h => h.elim (fun h => by omega) (fun h => by have := (hp _ h.2).1; omega)))
      have k3 : (9223372036854775808 : Int) < (k : Int) := by omega
      have k4 : (k : Int) < 18446744073709551616 := by omega
      obtain ⟨z, hz⟩ : ∃ z : Int, z = (k : Int) - 1 - 18446744073709551616 := ⟨_, rfl⟩
      have hlk := HMp.out.look (k := z) (by simp [Lit.wf, IntKind.min, IntKind.max, IntKind.signed, IntKind.bits]; omega)
      rw [siz_neg _ _ _ (by omega)] at hlk
      have hlk : (Instr.lookup 70 (.map (some mb)) (.int .i64 z) false).run Try.prog w = .ok (.int .i64 0) w := hlk
      obtain ⟨D, hD⟩ : ∃ D : Int, D = (k : Int) - 1 := ⟨_, rfl⟩
      have hcw : wrap64 (IntKind.u64.wrap D) = z := by
        have h1 : IntKind.u64.wrap D = D := by simp [IntKind.wrap, IntKind.bits, IntKind.signed]; omega
        rw [h1]
        unfold wrap64
        omega
      have e1 : (k : Int) - 1 = D := hD.symm
      clear hR hp hz k3 k4 hs hkl hD
      go_enter Try.func53, Try.ntmps53
      go_wp2_with fail
      go_ret
      rw [HR.out]
      exact ⟨rfl, Below.refl _ _⟩
end
end Go.Proofs.Ytaminpfgkegibaa
/- The bytes behind an object's, by a shift (pure). No conditions. -/
namespace Go.Proofs.Ytaminpfgkegibaa
set_option linter.unusedVariables false
set_option linter.unusedSimpArgs false
open Go.RowKit
theorem padB_shift (ws : List (BitVec 64)) (q r : Nat) (hr : r < 8) : padB ws (8 * q + r) (8 - r) = decide ((ws.getD q 0#64) >>> (8 * r) = 0#64) := by
  obtain ⟨y, hy⟩ : ∃ y, y = ws.getD q 0#64 := ⟨_, rfl⟩
  rw [← hy]
  have hb : ∀ i, i < 8 - r → byteAt ws (8 * q + r + i) = (y >>> (8 * (r + i))).setWidth 8 := by
    intro i hi
    unfold byteAt
    rw [show (8 * q + r + i) / 8 = q by omega, show (8 * q + r + i) % 8 = r + i by omega, ← hy]
  rw [Bool.eq_iff_iff]
  unfold padB bytesM
  rw [List.all_eq_true, decide_eq_true_eq]
  constructor
  · intro h
    apply BitVec.eq_of_getLsbD_eq
    intro j hj
    rw [BitVec.getLsbD_ushiftRight]
    by_cases hlt : 8 * r + j < 64
    · have h1 := h (byteAt ws (8 * q + r + j / 8)) (List.mem_map.2 ⟨j / 8, List.mem_range.2 (by omega), rfl⟩)
      have h2 : byteAt ws (8 * q + r + j / 8) = 0#8 := by simpa using h1
      rw [hb _ (by omega)] at h2
      have h3 := congrArg (fun z : BitVec 8 => z.getLsbD (j % 8)) h2
      simp only [BitVec.getLsbD_setWidth, BitVec.getLsbD_ushiftRight] at h3
      have e : 8 * (r + j / 8) + j % 8 = 8 * r + j := by omega
      rw [e] at h3
      have hd : decide (j % 8 < 8) = true := decide_eq_true (by omega)
      rw [hd, Bool.true_and] at h3
      rw [h3]
      simp
    · rw [BitVec.getLsbD_of_ge _ _ (by omega)]
      simp
  · intro h x hx
    obtain ⟨i, hi, rfl⟩ := List.mem_map.1 hx
    rw [hb i (List.mem_range.1 hi)]
    have h2 : y >>> (8 * (r + i)) = 0#64 := by
      rw [show 8 * (r + i) = 8 * r + 8 * i by omega, BitVec.shiftRight_add, h]
      simp
    rw [h2]
    rfl
theorem padN_zero {ws : List (BitVec 64)} {a room : Nat} (hg : goodX (ws.getD a 0#64) room = true) (h : B0 (ws.getD a 0#64) % 8 = 0) : padN ws a = true := by
  obtain ⟨_, _, _, hsz, _, _⟩ := head_of hg
  unfold padN padB
  rw [hsz, show 8 * (a + (1 + P0 (ws.getD a 0#64) + (B0 (ws.getD a 0#64) + 7) / 8)) - (8 * (a + 1 + P0 (ws.getD a 0#64)) + B0 (ws.getD a 0#64)) = 0 by omega]
  rfl
theorem padN_some {ws : List (BitVec 64)} {a room : Nat} (hg : goodX (ws.getD a 0#64) room = true) (h : B0 (ws.getD a 0#64) % 8 ≠ 0) : padN ws a = decide ((ws.getD (a + szX (ws.getD a 0#64) - 1) 0#64) >>> (8 * (B0 (ws.getD a 0#64) % 8)) = 0#64) := by
  obtain ⟨_, _, _, hsz, _, _⟩ := head_of hg
  rw [← padB_shift ws _ _ (by omega)]
  unfold padN
  rw [hsz]
  congr 1
  · omega
  · omega
end Go.Proofs.Ytaminpfgkegibaa
/- check.looked: object. Conditions: right objects. -/
namespace Go.Proofs.Ytaminpfgkegibaa
set_option linter.unusedVariables false
set_option linter.unusedSimpArgs false
open Go.RowKit Go.Maps
set_option maxHeartbeats 4000000
set_option maxRecDepth 100000
/-- The space stands as it was, whatever is told. -/
def SpB (wB : World) (B Bs s g : Nat) (v : Value) (ws : List (BitVec 64)) (b t e : Nat) : Prop := B = wB.heap.size ∧ SpAt wB Bs s g v ws b t e
theorem SpB.at_ {wB W : World} {B Bs s g : Nat} {v : Value} {ws : List (BitVec 64)} {b t e : Nat} (h : SpB wB B Bs s g v ws b t e) (hb : Below B wB W) : SpAt W Bs s g v ws b t e := h.2.below (h.1 ▸ hb)
section
variable {wB W W' : World} {B Bs Xb s g mb : Nat} {v rv lv : Value} {ws : List (BitVec 64)} {b t e : Nat} {p : List Nat} {fs : List (Nat × ByteArray)}
/-- What a row of tells leaves. -/
def ToldP (w wB : World) (B Xb sv mb : Nat) (rv lv : Value) (ws : List (BitVec 64)) (p : List Nat) (fs : List (Nat × ByteArray)) (w' : World) : Prop :=
  ∃ lv', LkAt w' B Xb sv mb rv lv' ws p fs ∧ Kept (fun k => k = Xb ∨ lv.ownBlock = some k) w w' ∧ (∀ k, lv'.ownBlock = some k → lv.ownBlock = some k ∨ w.heap.size ≤ k) ∧ Below B wB w'
theorem ptrF_at (ws : List (BitVec 64)) (p : List Nat) (a n k : Nat) : ptrF ws p a (n + 1) k = (if ptrN ws p a k = true then [] else [(a + 1 + k, ptrS)]) ++ ptrF ws p a n (k + 1) := by
  show (if ptrN ws p a k = true then ptrF ws p a n (k + 1) else (a + 1 + k, ptrS) :: ptrF ws p a n (k + 1)) = _
  by_cases h : ptrN ws p a k = true
  · rw [if_pos h, if_pos h]; rfl
  · rw [if_neg h, if_neg h]; rfl
theorem object_c (w : World) (hS : SpB wB B Bs s g v ws b t e) (hbw : Below B wB w) (h : LkAt w B Xb s mb rv lv ws p fs) (hl : fs.length ≤ 5000) (hw : ws.length ≤ 8192) (htl : t ≤ ws.length) (hp : ∀ a ∈ p, b ≤ a ∧ a < t ∧ goodX (ws.getD a 0#64) (t - a) = true) (a : Nat) (ha : a ∈ p) :
    Calls Try.prog 50 #[.pointer (some ⟨Xb, 0, none⟩), .int .i64 (a : Int)] w (fun r w' => r = .returned (.tuple #[]) ∧ ToldP w wB B Xb s mb rv lv ws p (fs ++ objE ws p a) w') := by
  obtain ⟨ha1, ha2, hg⟩ := hp a ha
  obtain ⟨x, hx⟩ : ∃ x, x = ws.getD a 0#64 := ⟨_, rfl⟩
  have hp2 : ∀ a ∈ p, a < 8192 ∧ 1 ≤ szX (ws.getD a 0#64) := fun y hy => by
    obtain ⟨_, h2, h3⟩ := hp y hy
    have := (goodX_out h3).2.2
    obtain ⟨_, _, _, h5, _, _⟩ := head_of h3
    exact ⟨by omega, by omega⟩
  have hgx := hg
  rw [← hx] at hgx
  obtain ⟨hv, hP64, hB1024, hsx, hsz, hroom⟩ := head_of hgx
  have hal : a < ws.length := by omega
  have hHd := fun W (hb : Below B wB W) => sphead_in W Bs s g v ws b t e (hS.at_ hb) a ha1 ha2 (by omega) hal
  have hxe : ws[a] = x := by rw [hx, List.getD_eq_getElem?_getD, List.getElem?_eq_getElem hal]; rfl
  rw [hxe, hv] at hHd
  have HHd := Lib.hid hHd
  obtain ⟨P, hP⟩ : ∃ P, P = P0 x := ⟨_, rfl⟩
  obtain ⟨n, hn⟩ : ∃ P, P = B0 x := ⟨_, rfl⟩
  obtain ⟨sz, hszz⟩ : ∃ P, P = szX x := ⟨_, rfl⟩
  rw [← hP, ← hn] at HHd
  rw [← hP] at hP64 hsx
  rw [← hn] at hB1024 hsx
  rw [← hszz] at hsx hroom
  have HG := Lib.hid (fun W (hb : Below B wB W) (i : Nat) (hi : i < ws.length) => get_in W Bs g v ws i hi (by omega) (hS.at_ hb).mem)
  have HSp := Lib.hid hS
  have H := Lib.hid h
  have HBw := Lib.hid hbw
  have Hp2 := Lib.hid hp2
  have HX := Lib.hid (And.intro hx (And.intro hP (And.intro hn (And.intro hszz hg))))
  have HL := Lib.hid (show fs.length ≤ 5000 ∧ a + sz ≤ ws.length ∧ ws.length ≤ 8192 ∧ 1 ≤ sz ∧ 1 + P ≤ sz by omega)
  obtain ⟨c0, c1, c2, c3⟩ := h.four
  have hXl := h.blk.lt
  obtain ⟨G, hG⟩ : ∃ G, G = fs ++ ptrF ws p a P 0 := ⟨_, rfl⟩
  have HGe := Lib.hid hG
  have aI : (a : Int) ≤ 8192 := by omega
  have a0 : (0 : Int) ≤ (a : Int) := by omega
  have nI : (n : Int) ≤ 1024 := by omega
  have n0 : (0 : Int) ≤ (n : Int) := by omega
  have PI : (P : Int) ≤ 64 := by omega
  have Ha := Lib.hid ha
  clear hv hgx hg hp hp2 ha hx hP hn hszz hsz hHd hS h hbw hxe hG hl hsx hroom ha1 ha2 htl hw hal
  go_enter Try.func50, Try.ntmps50
  go_wp2_with fail
  refine Calls.mono (HHd.out w HBw.out) ?_
  rintro r w1 ⟨rfl, b1⟩
  have h1 := H.out.below b1
  have H1 := Lib.hid (And.intro h1 (And.intro b1 (HBw.out.trans (b1.mono H.out.lts.2.2.2.2))))
  clear b1 h1 c0 c1 c2 c3
  go_wp2_with fail
  obtain ⟨Hb, hHb⟩ : ∃ H, H = w1.heap.size := ⟨_, rfl⟩
  obtain ⟨w2, hw2⟩ : ∃ w3, w3 = w1.alloc (.cells #[.int .i64 (P : Int), .int .i64 (n : Int), .bool false, .int .i64 0] 111) := ⟨_, rfl⟩
  have hbk : Bk w2 Hb 111 #[.int .i64 (P : Int), .int .i64 (n : Int), .bool false, .int .i64 0] := by rw [hw2, hHb]; exact Bk.new w1 _ _
  have b12 : Below w1.heap.size w1 w2 := by rw [hw2]; exact Gw.alloc w1 _
  rw [← hw2, ← hHb]
  have HS0 : Hid (∃ lv' fs', LkAt w2 B Xb s mb rv lv' ws p fs' ∧ fs' ++ ptrF ws p a (P - 0) 0 = G ∧ Bk w2 Hb 111 #[.int .i64 (P : Int), .int .i64 (n : Int), .bool false, .int .i64 0] ∧ (∀ k, lv'.ownBlock = some k → k ≠ Hb) ∧ Kept (fun k => k = Xb ∨ lv.ownBlock = some k) w w2 ∧ (∀ k, lv'.ownBlock = some k → lv.ownBlock = some k ∨ w.heap.size ≤ k) ∧ Below B wB w2 ∧ fs'.length ≤ 5000 + 0) := Lib.hid
    ⟨lv, fs, H1.out.1.below b12, HGe.out.symm, hbk, fun k hk e => by have := (H1.out.1.lts.2.2.2.1 k hk).2; omega, (Kept.of_below H1.out.2.1 _).trans (Kept.of_below b12 _), fun k hk => .inl hk, H1.out.2.2.trans (b12.mono H1.out.1.lts.2.2.2.2), HL.out.1⟩
  have hHl := hbk.lt
  obtain ⟨g0, g1, g2, g3⟩ := hbk.four
  have hHX : Hb ≠ Xb := by have := H1.out.1.blk.lt; omega
  have HHX := Lib.hid (show Hb ≠ Xb ∧ w.heap.size ≤ Hb from ⟨hHX, by have := H1.out.2.1.size; omega⟩)
  clear hbk b12 hw2 hHb
  go_wp2_with fail
  go_loopw [27] (fun x W => ∃ i : Nat, x = .int .i64 i ∧ i ≤ P ∧ Hid (∃ lv' fs', LkAt W B Xb s mb rv lv' ws p fs' ∧ fs' ++ ptrF ws p a (P - i) i = G ∧ Bk W Hb 111 #[.int .i64 (P : Int), .int .i64 (n : Int), .bool false, .int .i64 0] ∧ (∀ k, lv'.ownBlock = some k → k ≠ Hb) ∧ Kept (fun k => k = Xb ∨ lv.ownBlock = some k) w W ∧ (∀ k, lv'.ownBlock = some k → lv.ownBlock = some k ∨ w.heap.size ≤ k) ∧ Below B wB W ∧ fs'.length ≤ 5000 + i)) (fun x _ => P - (Go.RowKit.intOf x).toNat)
  case atStart => exact ⟨0, rfl, Nat.zero_le _, HS0⟩
  case round =>
    obtain ⟨i, rfl, hi, hS⟩ := hrel
    clear HS0 g0 g1 g2 g3 hHl
    obtain ⟨lv', fs', e1, e2, e3, e4, e5, e6, e7, e8⟩ := hS.out
    have p0 : (0 : Int) ≤ (i : Int) := by omega
    obtain ⟨c0, c1, c2, c3⟩ := e1.four
    have hXl := e1.blk.lt
    have sp := HSp.out.at_ e7
    obtain ⟨d0, d1, d2, d3⟩ := sp.four
    have hsl := sp.blk.lt
    by_cases hlt : i < P
    · have p1 : (i : Int) < (P : Int) := by omega
      obtain ⟨q, hq⟩ : ∃ q, q = a + 1 + i := ⟨_, rfl⟩
      have hql : q < ws.length := by have := HL.out; omega
      have q8 : (a : Int) + 1 + (i : Int) = (q : Int) := by omega
      have HGt := Lib.hid (HG.out wr e7 q hql)
      obtain ⟨y, hy⟩ : ∃ y, y = ws[q] := ⟨_, rfl⟩
      rw [← hy] at HGt
      have hye : ws.getD (a + 1 + i) 0#64 = y := by rw [← hq, hy, List.getD_eq_getElem?_getD, List.getElem?_eq_getElem hql]; rfl
      have HLd := Lib.hid (leads_c wr e1 y Hp2.out)
      obtain ⟨r, hr⟩ : ∃ r, r = decide (y.toNat = 0 ∨ (1 ≤ y.toNat ∧ y.toNat - 1 ∈ p)) := ⟨_, rfl⟩
      have hpn : ptrN ws p a i = r := by unfold ptrN; rw [hye, hr]
      rw [← hr] at HLd
      obtain ⟨j, hj⟩ : ∃ j, P - i = j + 1 := ⟨P - i - 1, by omega⟩
      rw [hj, ptrF_at, hpn] at e2
      have hj2 : P - (i + 1) = j := by omega
      have HE := Lib.hid (And.intro e1 (And.intro e2 (And.intro e3 (And.intro e4 (And.intro e5 (And.intro e6 (And.intro e7 (And.intro e8 (And.intro hj2 hq)))))))))
      have qI : (q : Int) ≤ 8192 := by have := HL.out; omega
      obtain ⟨xv, hxv⟩ : ∃ xv, xv = U64 y := ⟨_, rfl⟩
      rw [← hxv] at HGt HLd
      clear e1 e2 e3 e4 e5 e6 e7 e8 hS hy hye hr hpn hj hj2 hq sp hxv
      cases r with
      | true =>
        go_wp2_with fail
        refine Calls.mono HGt.out ?_
        rintro r w6 ⟨rfl, rfl⟩
        go_wp2_with fail
        refine Calls.mono HLd.out ?_
        rintro r w7 ⟨rfl, b7⟩
        have HN : Hid (∃ lv' fs', LkAt w7 B Xb s mb rv lv' ws p fs' ∧ fs' ++ ptrF ws p a (P - (i + 1)) (i + 1) = G ∧ Bk w7 Hb 111 #[.int .i64 (P : Int), .int .i64 (n : Int), .bool false, .int .i64 0] ∧ (∀ k, lv'.ownBlock = some k → k ≠ Hb) ∧ Kept (fun k => k = Xb ∨ lv.ownBlock = some k) w w7 ∧ (∀ k, lv'.ownBlock = some k → lv.ownBlock = some k ∨ w.heap.size ≤ k) ∧ Below B wB w7 ∧ fs'.length ≤ 5000 + (i + 1)) := by
          obtain ⟨e1, e2, e3, e4, e5, e6, e7, e8, hj2, hq⟩ := HE.out
          exact Lib.hid ⟨lv', fs', e1.below b7, by rw [hj2]; exact e2, e3.below b7 e3.lt, e4, e5.trans (Kept.of_below b7 _), e6, e7.trans (b7.mono e1.lts.2.2.2.2), by omega⟩
        clear b7 c0 c1 c2 c3 d0 d1 d2 d3
        go_wp2_with fail
        go_roundw
        case rel => first | exact ⟨i + 1, by go_num, by omega, HN⟩ | ((repeat apply Exists.intro); refine ⟨?_, rfl⟩; exact ⟨i + 1, by go_num, by omega, HN⟩)
        case measure => simp [Go.RowKit.intOf]; omega
      | false =>
        go_wp2_with fail
        refine Calls.mono HGt.out ?_
        rintro r w6 ⟨rfl, rfl⟩
        go_wp2_with fail
        refine Calls.mono HLd.out ?_
        rintro r w7 ⟨rfl, b7⟩
        have HT := Lib.hid (tell_c w7 (HE.out.1.below b7) (by have := HE.out.2.2.2.2.2.2.2.1; omega) q ptrS)
        have HB7 := Lib.hid b7
        clear b7 c0 c1 c2 c3 d0 d1 d2 d3
        unfold ptrS at HT
        go_wp2_with fail
        refine Calls.mono HT.out ?_
        rintro r w8 ⟨rfl, lv8, h8, k8, n8⟩
        have HN : Hid (∃ lv' fs', LkAt w8 B Xb s mb rv lv' ws p fs' ∧ fs' ++ ptrF ws p a (P - (i + 1)) (i + 1) = G ∧ Bk w8 Hb 111 #[.int .i64 (P : Int), .int .i64 (n : Int), .bool false, .int .i64 0] ∧ (∀ k, lv'.ownBlock = some k → k ≠ Hb) ∧ Kept (fun k => k = Xb ∨ lv.ownBlock = some k) w w8 ∧ (∀ k, lv'.ownBlock = some k → lv.ownBlock = some k ∨ w.heap.size ≤ k) ∧ Below B wB w8 ∧ fs'.length ≤ 5000 + (i + 1)) := by
          obtain ⟨e1, e2, e3, e4, e5, e6, e7, e8, hj2, hq⟩ := HE.out
          have b7 := HB7.out
          have s7 := b7.size
          have s5 := e5.size
          have hH := e3.lt
          have own9 : ∀ k, k = Xb ∨ lv'.ownBlock = some k → k = Xb ∨ lv.ownBlock = some k ∨ w.heap.size ≤ k := fun k hk => hk.elim .inl (fun h => .inr (e6 k h))
          have k58 : Kept (fun k => k = Xb ∨ lv.ownBlock = some k) w w8 := by
            have q1 := e5.trans (Kept.of_below b7 _)
            refine ⟨k8.os.trans q1.os, k8.tape.trans q1.tape, k8.output.trans q1.output, Nat.le_trans q1.size k8.size, fun j hj hn => ?_⟩
            refine (k8.block j (Nat.lt_of_lt_of_le hj q1.size) (fun h => ?_)).trans (q1.block j hj hn)
            rcases own9 j h with h | h | h
            · exact hn (.inl h)
            · exact hn (.inr h)
            · omega
          have hB := e1.lts.2.2.2.2
          refine Lib.hid ⟨lv8, fs' ++ [(q, ptrS)], h8, ?_, k8.bk (e3.below b7 hH) (fun h => h.elim (fun h => HHX.out.1 h) (fun h => e4 _ h rfl)), fun k hk e => ?_, k58, fun k hk => ?_, (e7.trans (b7.mono hB)).trans (k8.below (by omega) (fun k hk => ?_)), by simp; omega⟩
          · rw [hj2, ← e2, hq, List.append_assoc]
            rfl
          · rcases n8 k hk with h | h
            · exact e4 k h e
            · omega
          · rcases n8 k hk with h | h
            · exact e6 k h
            · exact .inr (by omega)
          · rcases hk with hk | hk
            · rw [hk]; exact e1.BX.1
            · exact (e1.lts.2.2.2.1 k hk).1
        clear h8 k8 n8
        go_wp2_with fail
        go_roundw
        case rel => first | exact ⟨i + 1, by go_num, by omega, HN⟩ | ((repeat apply Exists.intro); refine ⟨?_, rfl⟩; exact ⟨i + 1, by go_num, by omega, HN⟩)
        case measure => simp [Go.RowKit.intOf]; omega
    · have p1 : ¬ (i : Int) < (P : Int) := by omega
      have hiP : i = P := by omega
      have hG : fs' = G := by rw [← e2, show P - i = 0 by omega]; exact (List.append_nil _).symm
      obtain ⟨u, hu⟩ : ∃ u, u = n % 8 := ⟨_, rfl⟩
      have hu1 : (n : Int) % 8 = (u : Int) := by omega
      have hu2 : (n : Int).tmod 8 = (u : Int) := by rw [Int.tmod_eq_emod_of_nonneg (by omega)]; exact hu1
      have hlk := e1.mp.look (k := (a : Int)) (by simp [Lit.wf, IntKind.min, IntKind.max, IntKind.signed, IntKind.bits]; omega)
      rw [siz_look, if_pos Ha.out, ← HX.out.1, ← HX.out.2.2.2.1] at hlk
      have hlk : (Instr.lookup 70 (.map (some mb)) (.int .i64 (a : Int)) false).run Try.prog wr = .ok (.int .i64 (sz : Int)) wr := hlk
      obtain ⟨g0, g1, g2, g3⟩ := e3.four
      have hHl := e3.lt
      have s1 : (sz : Int) ≤ 8192 := by have := HL.out; omega
      have s2 : (1 : Int) ≤ (sz : Int) := by have := HL.out; omega
      have HE := Lib.hid (And.intro e1 (And.intro hG (And.intro e4 (And.intro e5 (And.intro e6 (And.intro e7 e8))))))
      by_cases h0 : u = 0
      · have HPd : padF ws a = [] := by
          unfold padF
          rw [if_pos (padN_zero HX.out.2.2.2.2 (by rw [← HX.out.1, ← HX.out.2.2.1, ← hu]; exact h0))]
        have HPd := Lib.hid HPd
        subst h0
        clear e1 e2 e3 e4 e5 e6 e7 e8 hS hG sp hu
        go_wp2_with fail
        refine bodyPost_ret (results_none (by kernel_rfl) _ _ _) rfl ?_
        obtain ⟨e1, hG, e4, e5, e6, e7, e8⟩ := HE.out
        refine ⟨rfl, lv', ?_, e5, e6, e7⟩
        unfold objE
        rw [HPd.out, List.append_nil, ← HX.out.1, ← HX.out.2.1, ← HGe.out, ← hG]
        exact e1
      · obtain ⟨la, hla⟩ : ∃ la, la = a + sz - 1 := ⟨_, rfl⟩
        have hla2 : (a : Int) + (sz : Int) - 1 = (la : Int) := by omega
        have hll : la < ws.length := by have := HL.out; omega
        have HGt := Lib.hid (HG.out wr e7 la hll)
        obtain ⟨y, hy⟩ : ∃ y, y = ws[la] := ⟨_, rfl⟩
        rw [← hy] at HGt
        have hye : ws.getD la 0#64 = y := by rw [hy, List.getD_eq_getElem?_getD, List.getElem?_eq_getElem hll]; rfl
        have hpn : padN ws a = decide (y >>> (8 * u) = 0#64) := by
          rw [padN_some HX.out.2.2.2.2 (by rw [← HX.out.1, ← HX.out.2.2.1, ← hu]; exact h0), ← HX.out.1, ← HX.out.2.2.1, ← hu, ← HX.out.2.2.2.1, ← hla, hye]
        have HPn := Lib.hid (And.intro hpn (And.intro hla hla2))
        have hu0 : ¬ (u : Int) = 0 := by omega
        have hu3 : (u : Int) ≤ 7 := by omega
        have hu4 : (1 : Int) ≤ (u : Int) := by omega
        have la1 : (la : Int) ≤ 8192 := by have := HL.out; omega
        clear e1 e2 e3 e4 e5 e6 e7 e8 hS hG sp hu hpn hye hy hla hll
        go_wp2_with fail
        refine Calls.mono HGt.out ?_
        rintro r w6 ⟨rfl, hw6⟩
        subst hw6
        by_cases hz0 : y >>> (8 * u) = 0#64
        · have hz : (U64 y / 2 ^ (8 * u) != 0) = false := by rw [shrU64, hz0]; rfl
          have HPd := Lib.hid (show padF ws a = [] from by unfold padF; rw [if_pos (by rw [HPn.out.1]; exact decide_eq_true hz0)])
          clear hz0
          go_wp2_with fail
          go_end0
          obtain ⟨e1, hG, e4, e5, e6, e7, e8⟩ := HE.out
          refine ⟨rfl, lv', ?_, e5, e6, e7⟩
          unfold objE
          rw [HPd.out, List.append_nil, ← HX.out.1, ← HX.out.2.1, ← HGe.out, ← hG]
          exact e1
        · have hz : (U64 y / 2 ^ (8 * u) != 0) = true := by
            rw [shrU64]
            simp only [bne_iff_ne, ne_eq]
            intro h
            apply hz0
            apply BitVec.eq_of_toNat_eq
            have h2 : ((y >>> (8 * u)).toNat : Int) = 0 := h
            have h3 : (y >>> (8 * u)).toNat = 0 := by omega
            rw [h3]; rfl
          have HPd := Lib.hid (show padF ws a = [(la, padS)] from by unfold padF; rw [if_neg (by rw [HPn.out.1, decide_eq_true_eq]; exact hz0), ← HX.out.1, ← HX.out.2.2.2.1, ← HPn.out.2.1])
          have HT := Lib.hid (tell_c w6 HE.out.1 (by have := HE.out.2.2.2.2.2.2; omega) la padS)
          clear hz0 c0 c1 c2 c3 d0 d1 d2 d3 g0 g1 g2 g3
          unfold padS at HT
          go_wp2_with fail
          refine Calls.mono HT.out ?_
          rintro r w8 ⟨rfl, lv8, h8, k8, n8⟩
          have H8 := Lib.hid (And.intro h8 (And.intro k8 n8))
          clear h8 k8 n8 hlk hz
          go_wp2_with fail
          go_end0
          obtain ⟨e1, hG, e4, e5, e6, e7, e8⟩ := HE.out
          obtain ⟨h8, k8, n8⟩ := H8.out
          have s5 := e5.size
          refine ⟨rfl, lv8, ?_, ?_, fun k hk => ?_, ?_⟩
          · unfold objE
            rw [HPd.out, ← HX.out.1, ← HX.out.2.1, ← List.append_assoc, ← HGe.out, ← hG]
            exact h8
          · refine ⟨k8.os.trans e5.os, k8.tape.trans e5.tape, k8.output.trans e5.output, Nat.le_trans e5.size k8.size, fun j hj hn => ?_⟩
            refine (k8.block j (Nat.lt_of_lt_of_le hj e5.size) (fun h => ?_)).trans (e5.block j hj hn)
            rcases h with h | h
            · exact hn (.inl h)
            · rcases e6 j h with h | h
              · exact hn (.inr h)
              · omega
          · rcases n8 k hk with h | h
            · exact e6 k h
            · exact .inr (by omega)
          · refine e7.trans (k8.below e1.lts.2.2.2.2 (fun k hk => ?_))
            rcases hk with hk | hk
            · rw [hk]; exact e1.BX.1
            · exact (e1.lts.2.2.2.1 k hk).1
end
end Go.Proofs.Ytaminpfgkegibaa
/- check.looked: objects. Conditions: right objects. -/
namespace Go.Proofs.Ytaminpfgkegibaa
set_option linter.unusedVariables false
set_option linter.unusedSimpArgs false
open Go.RowKit Go.Maps
set_option maxHeartbeats 4000000
set_option maxRecDepth 100000
section
variable {wB W W' : World} {B Bs Xb s g mb : Nat} {v rv lv : Value} {ws : List (BitVec 64)} {b t e : Nat} {p : List Nat} {fs : List (Nat × ByteArray)}
theorem ToldP.trans {w w1 w2 : World} {lv1 : Value} (e5 : Kept (fun k => k = Xb ∨ lv.ownBlock = some k) w w1) (e6 : ∀ k, lv1.ownBlock = some k → lv.ownBlock = some k ∨ w.heap.size ≤ k) (h : ToldP w1 wB B Xb s mb rv lv1 ws p fs w2) : ToldP w wB B Xb s mb rv lv ws p fs w2 := by
  obtain ⟨lv8, h8, k8, n8, b8⟩ := h
  have s5 := e5.size
  refine ⟨lv8, h8, ⟨k8.os.trans e5.os, k8.tape.trans e5.tape, k8.output.trans e5.output, Nat.le_trans e5.size k8.size, fun j hj hn => ?_⟩, fun k hk => ?_, b8⟩
  · refine (k8.block j (Nat.lt_of_lt_of_le hj e5.size) (fun h => ?_)).trans (e5.block j hj hn)
    rcases h with h | h
    · exact hn (.inl h)
    · rcases e6 j h with h | h
      · exact hn (.inr h)
      · omega
  · rcases n8 k hk with h | h
    · exact e6 k h
    · exact .inr (by omega)
theorem lkobj_c (w : World) (hS : SpB wB B Bs s g v ws b t e) (hbw : Below B wB w) (h : LkAt w B Xb s mb rv lv ws p fs) (hl : (fs ++ allE ws p p).length ≤ 5000) (hw : ws.length ≤ 8192) (htl : t ≤ ws.length) (hp : ∀ a ∈ p, b ≤ a ∧ a < t ∧ goodX (ws.getD a 0#64) (t - a) = true) (hpl : p.length ≤ 8192) :
    Calls Try.prog 24 #[.pointer (some ⟨Xb, 0, none⟩)] w (fun r w' => r = .returned (.tuple #[]) ∧ ToldP w wB B Xb s mb rv lv ws p (fs ++ allE ws p p) w') := by
  obtain ⟨c0, c1, c2, c3⟩ := h.four
  have hXl := h.blk.lt
  obtain ⟨A, c, e0, _⟩ := h.row.form
  obtain ⟨N, hN⟩ : ∃ N, N = p.length := ⟨_, rfl⟩
  rw [← hN] at e0
  subst e0
  have HN := Lib.hid hN
  have HH := Lib.hid (And.intro hS (And.intro hw (And.intro htl hp)))
  obtain ⟨G, hG⟩ : ∃ G, G = fs ++ allE ws p p := ⟨_, rfl⟩
  rw [← hG] at hl ⊢
  have HL := Lib.hid hl
  have HS0 : Hid (∃ lv' fs', LkAt w B Xb s mb (.slice A N c) lv' ws p fs' ∧ fs' ++ allE ws p (p.drop 0) = G ∧ Kept (fun k => k = Xb ∨ lv.ownBlock = some k) w w ∧ (∀ k, lv'.ownBlock = some k → lv.ownBlock = some k ∨ w.heap.size ≤ k) ∧ Below B wB w) := Lib.hid ⟨lv, fs, h, by rw [hG]; rfl, Kept.refl _ _, fun k hk => .inl hk, hbw⟩
  have N8 : (N : Int) ≤ 8192 := by omega
  clear hS hw htl hp hpl hG hl hbw h hN
  go_enter Try.func24, Try.ntmps24
  go_wp2_with fail
  go_loopw [9] (fun x W => ∃ i : Nat, x = .int .i64 i ∧ i ≤ N ∧ Hid (∃ lv' fs', LkAt W B Xb s mb (.slice A N c) lv' ws p fs' ∧ fs' ++ allE ws p (p.drop i) = G ∧ Kept (fun k => k = Xb ∨ lv.ownBlock = some k) w W ∧ (∀ k, lv'.ownBlock = some k → lv.ownBlock = some k ∨ w.heap.size ≤ k) ∧ Below B wB W)) (fun x _ => N - (Go.RowKit.intOf x).toNat)
  case atStart => exact ⟨0, rfl, Nat.zero_le _, HS0⟩
  case round =>
    obtain ⟨i, rfl, hi, hS⟩ := hrel
    clear HS0 c0 c1 c2 c3 hXl
    obtain ⟨lv', fs', e1, e2, e3, e4, e5⟩ := hS.out
    have p0 : (0 : Int) ≤ (i : Int) := by omega
    by_cases hlt : i < N
    · have p1 : (i : Int) < (N : Int) := by omega
      have hil : i < p.length := by rw [← HN.out]; exact hlt
      have hrow : Ow iN 3 wr B (.slice A p.length c) p := by rw [← HN.out]; exact e1.row
      obtain ⟨ad, rfl, hlt2, hc⟩ := hrow.rd i hil
      obtain ⟨a, ha⟩ : ∃ a, a = p[i] := ⟨_, rfl⟩
      rw [← ha] at hc
      unfold iN at hc
      have hdr : p.drop i = a :: p.drop (i + 1) := by rw [List.drop_eq_getElem_cons hil, ha]
      rw [hdr] at e2
      have e2' : fs' ++ objE ws p a ++ allE ws p (p.drop (i + 1)) = G := by rw [List.append_assoc]; exact e2
      have hfl : fs'.length ≤ 5000 := by
        have h1 := HL.out
        rw [← e2', List.length_append, List.length_append] at h1
        omega
      have HO := Lib.hid (object_c wr HH.out.1 e5 e1 hfl HH.out.2.1 HH.out.2.2.1 HH.out.2.2.2 a (by rw [ha]; exact List.getElem_mem _))
      have HE := Lib.hid (And.intro e2' (And.intro e3 e4))
      clear e1 e2 e2' e3 e4 e5 hS ha hdr hfl hil hrow
      go_wp2_with fail
      refine Calls.mono HO.out ?_
      rintro r w6 ⟨rfl, ht⟩
      obtain ⟨lv8, h8, k8, n8, b8⟩ := ToldP.trans HE.out.2.1 HE.out.2.2 ht
      have HNx : Hid (∃ lv' fs', LkAt w6 B Xb s mb (.slice (some ad) N c) lv' ws p fs' ∧ fs' ++ allE ws p (p.drop (i + 1)) = G ∧ Kept (fun k => k = Xb ∨ lv.ownBlock = some k) w w6 ∧ (∀ k, lv'.ownBlock = some k → lv.ownBlock = some k ∨ w.heap.size ≤ k) ∧ Below B wB w6) := Lib.hid ⟨lv8, _, h8, HE.out.1, k8, n8, b8⟩
      clear ht h8 k8 n8 b8 hc hlt2
      go_wp2_with fail
      go_roundw
      case rel => first | exact ⟨i + 1, by go_num, by omega, HNx⟩ | ((repeat apply Exists.intro); refine ⟨?_, rfl⟩; exact ⟨i + 1, by go_num, by omega, HNx⟩)
      case measure => simp [Go.RowKit.intOf]; omega
    · have p1 : ¬ (i : Int) < (N : Int) := by omega
      have hG : fs' = G := by
        rw [← e2, List.drop_of_length_le (by rw [← HN.out]; omega)]
        exact (List.append_nil _).symm
      have HE := Lib.hid (And.intro e1 (And.intro hG (And.intro e3 (And.intro e4 e5))))
      clear e1 e2 e3 e4 e5 hS hG
      go_wp2_with fail
      go_end0
      obtain ⟨e1, hG, e3, e4, e5⟩ := HE.out
      exact ⟨rfl, lv', hG ▸ e1, e3, e4, e5⟩
end
end Go.Proofs.Ytaminpfgkegibaa
/- The reference's Well: among, Points. Conditions: lengths. (BEGUN: what builds stands here.) -/
namespace Go.Proofs.Ytaminpfgkegibaa
set_option linter.unusedVariables false
set_option linter.unusedSimpArgs false
open Go.RowKit
set_option maxHeartbeats 1000000
set_option maxRecDepth 100000
end Go.Proofs.Ytaminpfgkegibaa
/- What crc.Sum, tail and Seal answer. Conditions: at most 2^31 bytes. -/
namespace Go.Proofs.Ytaminpfgkegibaa
set_option linter.unusedVariables false
set_option linter.unusedSimpArgs false
open Go.RowKit
abbrev Pt : Type := Option Addr × List (BitVec 8) × Nat
def Pt.v (p : Pt) : Value := .slice p.1 p.2.1.length p.2.2
def Pt.l (p : Pt) : List (BitVec 8) := p.2.1
def sumC (ls : List (List (BitVec 8))) : BitVec 32 := ls.foldl addC 0
def tailL (s : BitVec 32) : List (BitVec 8) := [s.setWidth 8, (s >>> 8).setWidth 8, (s >>> 16).setWidth 8, (s >>> 24).setWidth 8]
def sealC (bs : List (BitVec 8)) : List (BitVec 8) := bs ++ tailL (addC 0 bs)
set_option maxHeartbeats 400000
theorem m8_0 (s : BitVec 32) : U32 s % 256 = U8 (s.setWidth 8) := by
  rw [← u32_u8]; simp [IntKind.wrap, IntKind.bits, IntKind.signed]
theorem sh8 (s : BitVec 32) : U32 s / (256 : Int) = U32 (s >>> 8) := by rw [show (256 : Int) = 2 ^ 8 from by decide, shrU32]
theorem sh16 (s : BitVec 32) : U32 s / (65536 : Int) = U32 (s >>> 16) := by rw [show (65536 : Int) = 2 ^ 16 from by decide, shrU32]
theorem sh24 (s : BitVec 32) : U32 s / (16777216 : Int) = U32 (s >>> 24) := by rw [show (16777216 : Int) = 2 ^ 24 from by decide, shrU32]
attribute [local go_sem] m8_0 sh8 sh16 sh24 u32_u8
theorem Bk.grown {w w' : World} {g : Nat} {E : TypeId} {cs : Array Value} {row : Option Nat} (h : Bk w g E cs) (hg : w.grownBy w' row) (hne : some g ≠ row) : Bk w' g E cs := (hg.block g h.lt hne).trans h
end Go.Proofs.Ytaminpfgkegibaa
/- What crc.Right answers. Conditions: at most 2^30 bytes. -/
namespace Go.Proofs.Ytaminpfgkegibaa
set_option linter.unusedVariables false
set_option linter.unusedSimpArgs false
open Go.RowKit
def right4 (xs : List (BitVec 8)) (y0 y1 y2 y3 : BitVec 8) : Bool := (addC (0#32) xs).setWidth 8 == y0 && (((addC (0#32) xs) >>> 8).setWidth 8 == y1 && (((addC (0#32) xs) >>> 16).setWidth 8 == y2 && ((addC (0#32) xs) >>> 24).setWidth 8 == y3))
attribute [local go_sem] beqU8
set_option maxHeartbeats 800000
set_option maxRecDepth 100000
end Go.Proofs.Ytaminpfgkegibaa
