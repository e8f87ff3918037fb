/- Texts joined: CkA CkB CkC CkD CkE ObL ObM ObN. -/
import Derived.Test.YtaminpfgkegibaaXd8
import Derived.Test.YtaminpfgkegibaaFiA
import Derived.Test.YtaminpfgkegibaaRegV
import Derived.Test.YtaminpfgkegibaaRegT
/- What check.look makes, in memory; tell. Conditions: lengths. -/
namespace Go.Proofs.Ytaminpfgkegibaa
set_option linter.unusedVariables false
set_option linter.unusedSimpArgs false
open Go.RowKit Go.Maps
set_option maxHeartbeats 2000000
set_option maxRecDepth 100000
def sizR (ws : List (BitVec 64)) (p : List Nat) : List (Int × Int) := p.map fun a : Nat => ((a : Int), (szX (ws.getD a 0#64) : Int))
/-- A looked in memory. -/
structure LkAt (W : World) (B Xb sv mb : Nat) (rv lv : Value) (ws : List (BitVec 64)) (p : List Nat) (fs : List (Nat × ByteArray)) : Prop where
  blk : Bk W Xb 72 #[.pointer (some ⟨sv, 0, none⟩), rv, .map (some mb), lv]
  row : Ow iN 3 W B rv p
  mp : MapIs W (some mb) (sizR ws p)
  fr : FR W B lv fs
  ne : Xb ≠ mb
  ap : ∀ k, (k = Xb ∨ k = mb) → rv.ownBlock ≠ some k ∧ lv.ownBlock ≠ some k
  ap2 : ∀ k, rv.ownBlock = some k → lv.ownBlock ≠ some k
  BX : B ≤ Xb ∧ B ≤ mb
section
variable {W W' : World} {B Xb sv mb : Nat} {rv lv : Value} {ws : List (BitVec 64)} {p : List Nat} {fs : List (Nat × ByteArray)}
theorem LkAt.below (h : LkAt W B Xb sv mb rv lv ws p fs) (hb : Below W.heap.size W W') : LkAt W' B Xb sv mb rv lv ws p fs :=
  ⟨h.blk.below hb h.blk.lt, h.row.below hb, h.mp.kept (Kept.of_below hb (fun _ => False)) (fun _ _ f => f), h.fr.below hb, h.ne, h.ap, h.ap2, h.BX⟩
theorem LkAt.lts (h : LkAt W B Xb sv mb rv lv ws p fs) : Xb < W.heap.size ∧ mb < W.heap.size ∧ (∀ k, rv.ownBlock = some k → B ≤ k ∧ k < W.heap.size) ∧ (∀ k, lv.ownBlock = some k → B ≤ k ∧ k < W.heap.size) ∧ B ≤ W.heap.size := by
  have h1 := h.blk.lt
  have h2 := h.BX
  exact ⟨h1, h.mp.lt mb rfl, fun k hk => h.row.lt k hk, fun k hk => h.fr.lt k hk, by omega⟩
theorem LkAt.four (h : LkAt W B Xb sv mb rv lv ws p fs) : W.cell? ⟨Xb, 0, none⟩ = some (.pointer (some ⟨sv, 0, none⟩)) ∧ W.cell? ⟨Xb, 1, none⟩ = some rv ∧ W.cell? ⟨Xb, 2, none⟩ = some (.map (some mb)) ∧ W.cell? ⟨Xb, 3, none⟩ = some lv := ⟨h.blk.cell 0, h.blk.cell 1, h.blk.cell 2, h.blk.cell 3⟩
def TellP (w : World) (B Xb sv mb : Nat) (rv lv : Value) (ws : List (BitVec 64)) (p : List Nat) (fs : List (Nat × ByteArray)) (r : Ending) (w' : World) : Prop :=
  r = .returned (.tuple #[]) ∧ ∃ lv', LkAt w' B Xb sv mb rv lv' ws p fs ∧ Kept (fun k => k = Xb ∨ lv.ownBlock = some k) w w' ∧ ∀ k, lv'.ownBlock = some k → lv.ownBlock = some k ∨ w.heap.size ≤ k
theorem tell_c (w : World) (h : LkAt w B Xb sv mb rv lv ws p fs) (hl : fs.length ≤ 10000) (a : Nat) (s : ByteArray) :
    Calls Try.prog 49 #[.pointer (some ⟨Xb, 0, none⟩), .int .i64 (a : Int), .string s] w (TellP w B Xb sv mb rv lv ws p (fs ++ [(a, s)])) := by
  obtain ⟨c0, c1, c2, c3⟩ := h.four
  have hX := h.blk.lt
  have H := Lib.hid h
  have HL := Lib.hid (show fs.length + [(a, s)].length ≤ 100000 by simp; omega)
  have HB := Lib.hid h.lts.2.2.2.2
  obtain ⟨lA, lc, e, _⟩ := h.fr.slice_
  obtain ⟨nf, hnf⟩ : ∃ n, n = fs.length := ⟨_, rfl⟩
  rw [← hnf] at e
  subst e
  clear h hl hnf
  go_enter Try.func49, Try.ntmps49
  go_wp2_with (at_builtin; refine wp_appF rfl (.tmp 10) (.tmp 14) rfl rfl (H.out.fr.below (Gw.alloc w _)) (some ⟨w.heap.size, 0, none⟩) 1 1 [(a, s)] rfl rfl (rdF_new w a s) HL.out (Nat.le_trans HB.out (Gw.alloc w _).size) ?_; intro v6 w6 ho6 hb6 hg6 hv6; obtain ⟨A6, c6, e6, _⟩ := ho6.slice_; obtain ⟨n6, hn6⟩ : ∃ n, n = (fs ++ [(a, s)]).length := ⟨_, rfl⟩; rw [← hn6] at e6; subst e6; clear hn6; have hk6 := (H.out.blk.alloc (.cells #[.int .i64 (a : Int), .string s] 55)).grownK hg6 (fun e => (H.out.ap Xb (.inl rfl)).2 e.symm); have HK := Lib.hid (And.intro ho6 (And.intro (show World.grownBy (w.alloc (.cells #[.int .i64 (a : Int), .string s] 55)) w6 (Value.slice lA nf lc).ownBlock from hg6) (And.intro (show (Value.slice A6 n6 c6).ownBlock = (Value.slice lA nf lc).ownBlock ∨ (Value.slice A6 n6 c6).ownBlock = some (w.alloc (.cells #[.int .i64 (a : Int), .string s] 55)).heap.size from hv6) hk6))); have j3 := hk6.cell 3; have jf := hk6.free 3; have jX := hk6.lt; clear ho6 hb6 hg6 hv6 hk6 c0 c1 c2 c3)
  go_end0
  obtain ⟨ho6, hg6, hv6, hk6⟩ := HK.out
  obtain ⟨l1, l2, l3, l4, l5⟩ := H.out.lts
  have e1 : (w.alloc (.cells #[.int .i64 (a : Int), .string s] 55)).heap.size = w.heap.size + 1 := by unfold World.alloc; simp
  have KA := Kept.alloc (fun k => k = Xb ∨ (Value.slice lA nf lc).ownBlock = some k) w (.cells #[.int .i64 (a : Int), .string s] 55)
  have K1 := Kept.grown hg6
  have K2 := Kept.set w6 Xb 3 (.slice A6 n6 c6)
  have hA := H.out.below (Gw.alloc w (.cells #[.int .i64 (a : Int), .string s] 55))
  have a1 := H.out.ap Xb (.inl rfl)
  have a2 := H.out.ap mb (.inr rfl)
  have m6 : ∀ k, (Value.slice A6 n6 c6).ownBlock = some k → (Value.slice lA nf lc).ownBlock = some k ∨ k = w.heap.size + 1 := fun k hk => by
    rcases hv6 with e | e
    · exact .inl (e ▸ hk)
    · rw [e] at hk
      injection hk with hk
      exact .inr (by omega)
  refine ⟨rfl, .slice A6 n6 c6, ⟨hk6.set 3 (.slice A6 n6 c6), K2.ow (K1.ow hA.row (fun k hk e => H.out.ap2 k hk e)) (fun k hk e => a1.1 (e ▸ hk)), (hA.mp.kept K1 (fun b hb e => by injection hb with hb; exact a2.2 (hb ▸ e))).kept K2 (fun b hb e => by injection hb with hb; exact H.out.ne (e.symm.trans hb.symm)), ho6.kept K2 (fun k hk e => ?_), H.out.ne, fun k hk => ⟨(H.out.ap k hk).1, fun e => ?_⟩, fun k hk e => ?_, H.out.BX⟩, (KA.trans (K1.more fun k hk => .inr hk)).trans (K2.more fun k hk => .inl hk), fun k hk => (m6 k hk).imp id (fun h => by omega)⟩
  · rcases m6 k hk with h | h
    · exact a1.2 (e ▸ h)
    · omega
  · rcases m6 k e with h | h
    · exact (H.out.ap k hk).2 h
    · rcases hk with hk | hk <;> omega
  · rcases m6 k e with h | h
    · exact H.out.ap2 k hk h
    · have := (l3 k hk).2; omega
end
end Go.Proofs.Ytaminpfgkegibaa
/- check.looked: leads. Conditions: right places. -/
namespace Go.Proofs.Ytaminpfgkegibaa
set_option linter.unusedVariables false
set_option linter.unusedSimpArgs false
open Go.RowKit Go.Maps
set_option maxHeartbeats 2000000
set_option maxRecDepth 100000
theorem siz_look (ws : List (BitVec 64)) : ∀ (p : List Nat) (a : Nat), lookI (sizR ws p) (a : Int) = if a ∈ p then some (szX (ws.getD a 0#64) : Int) else none
  | [], a => rfl
  | x :: p, a => by
    show (if ((x : Nat) : Int) = (a : Int) then some (szX (ws.getD x 0#64) : Int) else lookI (sizR ws p) (a : Int)) = _
    by_cases e : x = a
    · subst e
      rw [if_pos rfl, if_pos (by simp)]
    · rw [if_neg (by omega), siz_look ws p a]
      by_cases h : a ∈ p
      · rw [if_pos h, if_pos (by simp [h])]
      · rw [if_neg h, if_neg (by simp [h]; exact fun h => e h.symm)]
theorem siz_neg (ws : List (BitVec 64)) (p : List Nat) (z : Int) (hz : z < 0) : lookI (sizR ws p) z = none := by
  apply look_none
  intro q hq
  obtain ⟨a, _, rfl⟩ := List.mem_map.1 hq
  show (a : Int) ≠ z
  omega
section
variable {W W' : World} {B Xb sv mb : Nat} {rv lv : Value} {ws : List (BitVec 64)} {p : List Nat} {fs : List (Nat × ByteArray)}
theorem leads_c (w : World) (h : LkAt w B Xb sv mb rv lv ws p fs) (x : BitVec 64) (hp : ∀ a ∈ p, a < 8192 ∧ 1 ≤ szX (ws.getD a 0#64)) :
    Calls Try.prog 53 #[.pointer (some ⟨Xb, 0, none⟩), .int .u64 (U64 x)] w (RetP (.bool (decide (x.toNat = 0 ∨ (1 ≤ x.toNat ∧ x.toNat - 1 ∈ p)))) w) := by
  obtain ⟨R, hR⟩ : ∃ R, R = decide (x.toNat = 0 ∨ (1 ≤ x.toNat ∧ x.toNat - 1 ∈ p)) := ⟨_, rfl⟩
  rw [← hR]
  obtain ⟨c0, c1, c2, c3⟩ := h.four
  have hX := h.blk.lt
  obtain ⟨k, hk⟩ : ∃ k : Nat, k = x.toNat := ⟨_, rfl⟩
  have hkl : k < 18446744073709551616 := by rw [hk]; exact x.isLt
  rw [← hk] at hR
  have e0 : U64 x = (k : Int) := by rw [hk]; rfl
  rw [e0]
  have HMp := Lib.hid h.mp
  clear h c0 c1 c3 hk e0
  by_cases h0 : k = 0
  · have HR := Lib.hid (show R = true by rw [hR]; exact decide_eq_true (.inl h0))
    subst h0
    clear hR hp
    go_enter Try.func53, Try.ntmps53
    go_wp2_with fail
    go_ret
    rw [HR.out]
    exact ⟨rfl, Below.refl _ _⟩
  · have k1 : ¬ (k : Int) = 0 := by omega
    have k2 : (1 : Int) ≤ (k : Int) := by omega
    by_cases hs : k ≤ 9223372036854775808
    · have hlk := HMp.out.look (k := (k : Int) - 1) (by simp [Lit.wf, IntKind.min, IntKind.max, IntKind.signed, IntKind.bits]; omega)
      have k3 : (k : Int) ≤ 9223372036854775808 := by omega
      have ek : (k : Int) - 1 = ((k - 1 : Nat) : Int) := by omega
      rw [ek, siz_look] at hlk
      by_cases hm : k - 1 ∈ p
      · have HR := Lib.hid (show R = true by rw [hR]; exact decide_eq_true (.inr ⟨by omega, hm⟩))
        have hz := (hp _ hm).2
        rw [if_pos hm] at hlk
        have hlk : (Instr.lookup 70 (.map (some mb)) (.int .i64 ((k : Int) - 1)) false).run Try.prog w = .ok (.int .i64 (szX (ws.getD (k - 1) 0#64) : Int)) w := by rw [ek]; exact hlk
        obtain ⟨sz, hsz⟩ : ∃ sz, sz = szX (ws.getD (k - 1) 0#64) := ⟨_, rfl⟩
        rw [← hsz] at hlk hz
        have hz0 : (0 : Int) < (sz : Int) := by omega
        clear hR hp hsz ek
        go_enter Try.func53, Try.ntmps53
        go_wp2_with fail
        go_ret
        rw [HR.out]
        exact ⟨by simp; omega, Below.refl _ _⟩
      · have HR := Lib.hid (show R = false by rw [hR]; exact decide_eq_false (fun h => h.elim (fun h => by omega) (fun h => hm h.2)))
        rw [if_neg hm] at hlk
        have hlk : (Instr.lookup 70 (.map (some mb)) (.int .i64 ((k : Int) - 1)) false).run Try.prog w = .ok (.int .i64 0) w := by rw [ek]; exact hlk
        clear hR hp ek
        go_enter Try.func53, Try.ntmps53
        go_wp2_with fail
        go_ret
        rw [HR.out]
        exact ⟨rfl, Below.refl _ _⟩
    · have HR := Lib.hid (show R = false by rw [hR]; exact decide_eq_false (fun h => h.elim (fun h => by omega) (fun h => by have := (hp _ h.2).1; omega)))
      have k3 : (9223372036854775808 : Int) < (k : Int) := by omega
      have k4 : (k : Int) < 18446744073709551616 := by omega
      obtain ⟨z, hz⟩ : ∃ z : Int, z = (k : Int) - 1 - 18446744073709551616 := ⟨_, rfl⟩
      have hlk := HMp.out.look (k := z) (by simp [Lit.wf, IntKind.min, IntKind.max, IntKind.signed, IntKind.bits]; omega)
      rw [siz_neg _ _ _ (by omega)] at hlk
      have hlk : (Instr.lookup 70 (.map (some mb)) (.int .i64 z) false).run Try.prog w = .ok (.int .i64 0) w := hlk
      obtain ⟨D, hD⟩ : ∃ D : Int, D = (k : Int) - 1 := ⟨_, rfl⟩
      have hcw : wrap64 (IntKind.u64.wrap D) = z := by
        have h1 : IntKind.u64.wrap D = D := by simp [IntKind.wrap, IntKind.bits, IntKind.signed]; omega
        rw [h1]
        unfold wrap64
        omega
      have e1 : (k : Int) - 1 = D := hD.symm
      clear hR hp hz k3 k4 hs hkl hD
      go_enter Try.func53, Try.ntmps53
      go_wp2_with fail
      go_ret
      rw [HR.out]
      exact ⟨rfl, Below.refl _ _⟩
end
end Go.Proofs.Ytaminpfgkegibaa
/- The bytes behind an object's, by a shift (pure). No conditions. -/
namespace Go.Proofs.Ytaminpfgkegibaa
set_option linter.unusedVariables false
set_option linter.unusedSimpArgs false
open Go.RowKit
theorem padB_shift (ws : List (BitVec 64)) (q r : Nat) (hr : r < 8) : padB ws (8 * q + r) (8 - r) = decide ((ws.getD q 0#64) >>> (8 * r) = 0#64) := by
  obtain ⟨y, hy⟩ : ∃ y, y = ws.getD q 0#64 := ⟨_, rfl⟩
  rw [← hy]
  have hb : ∀ i, i < 8 - r → byteAt ws (8 * q + r + i) = (y >>> (8 * (r + i))).setWidth 8 := by
    intro i hi
    unfold byteAt
    rw [show (8 * q + r + i) / 8 = q by omega, show (8 * q + r + i) % 8 = r + i by omega, ← hy]
  rw [Bool.eq_iff_iff]
  unfold padB bytesM
  rw [List.all_eq_true, decide_eq_true_eq]
  constructor
  · intro h
    apply BitVec.eq_of_getLsbD_eq
    intro j hj
    rw [BitVec.getLsbD_ushiftRight]
    by_cases hlt : 8 * r + j < 64
    · have h1 := h (byteAt ws (8 * q + r + j / 8)) (List.mem_map.2 ⟨j / 8, List.mem_range.2 (by omega), rfl⟩)
      have h2 : byteAt ws (8 * q + r + j / 8) = 0#8 := by simpa using h1
      rw [hb _ (by omega)] at h2
      have h3 := congrArg (fun z : BitVec 8 => z.getLsbD (j % 8)) h2
      simp only [BitVec.getLsbD_setWidth, BitVec.getLsbD_ushiftRight] at h3
      have e : 8 * (r + j / 8) + j % 8 = 8 * r + j := by omega
      rw [e] at h3
      have hd : decide (j % 8 < 8) = true := decide_eq_true (by omega)
      rw [hd, Bool.true_and] at h3
      rw [h3]
      simp
    · rw [BitVec.getLsbD_of_ge _ _ (by omega)]
      simp
  · intro h x hx
    obtain ⟨i, hi, rfl⟩ := List.mem_map.1 hx
    rw [hb i (List.mem_range.1 hi)]
    have h2 : y >>> (8 * (r + i)) = 0#64 := by
      rw [show 8 * (r + i) = 8 * r + 8 * i by omega, BitVec.shiftRight_add, h]
      simp
    rw [h2]
    rfl
theorem padN_zero {ws : List (BitVec 64)} {a room : Nat} (hg : goodX (ws.getD a 0#64) room = true) (h : B0 (ws.getD a 0#64) % 8 = 0) : padN ws a = true := by
  obtain ⟨_, _, _, hsz, _, _⟩ := head_of hg
  unfold padN padB
  rw [hsz, show 8 * (a + (1 + P0 (ws.getD a 0#64) + (B0 (ws.getD a 0#64) + 7) / 8)) - (8 * (a + 1 + P0 (ws.getD a 0#64)) + B0 (ws.getD a 0#64)) = 0 by omega]
  rfl
theorem padN_some {ws : List (BitVec 64)} {a room : Nat} (hg : goodX (ws.getD a 0#64) room = true) (h : B0 (ws.getD a 0#64) % 8 ≠ 0) : padN ws a = decide ((ws.getD (a + szX (ws.getD a 0#64) - 1) 0#64) >>> (8 * (B0 (ws.getD a 0#64) % 8)) = 0#64) := by
  obtain ⟨_, _, _, hsz, _, _⟩ := head_of hg
  rw [← padB_shift ws _ _ (by omega)]
  unfold padN
  rw [hsz]
  congr 1
  · omega
  · omega
end Go.Proofs.Ytaminpfgkegibaa
/- check.looked: object. Conditions: right objects. -/
namespace Go.Proofs.Ytaminpfgkegibaa
set_option linter.unusedVariables false
set_option linter.unusedSimpArgs false
open Go.RowKit Go.Maps
set_option maxHeartbeats 4000000
set_option maxRecDepth 100000
/-- The space stands as it was, whatever is told. -/
def SpB (wB : World) (B Bs s g : Nat) (v : Value) (ws : List (BitVec 64)) (b t e : Nat) : Prop := B = wB.heap.size ∧ SpAt wB Bs s g v ws b t e
theorem SpB.at_ {wB W : World} {B Bs s g : Nat} {v : Value} {ws : List (BitVec 64)} {b t e : Nat} (h : SpB wB B Bs s g v ws b t e) (hb : Below B wB W) : SpAt W Bs s g v ws b t e := h.2.below (h.1 ▸ hb)
section
variable {wB W W' : World} {B Bs Xb s g mb : Nat} {v rv lv : Value} {ws : List (BitVec 64)} {b t e : Nat} {p : List Nat} {fs : List (Nat × ByteArray)}
/-- What a row of tells leaves. -/
def ToldP (w wB : World) (B Xb sv mb : Nat) (rv lv : Value) (ws : List (BitVec 64)) (p : List Nat) (fs : List (Nat × ByteArray)) (w' : World) : Prop :=
  ∃ lv', LkAt w' B Xb sv mb rv lv' ws p fs ∧ Kept (fun k => k = Xb ∨ lv.ownBlock = some k) w w' ∧ (∀ k, lv'.ownBlock = some k → lv.ownBlock = some k ∨ w.heap.size ≤ k) ∧ Below B wB w'
theorem object_c (w : World) (hS : SpB wB B Bs s g v ws b t e) (hbw : Below B wB w) (h : LkAt w B Xb s mb rv lv ws p fs) (hl : fs.length ≤ 5000) (hw : ws.length ≤ 8192) (htl : t ≤ ws.length) (hp : ∀ a ∈ p, b ≤ a ∧ a < t ∧ goodX (ws.getD a 0#64) (t - a) = true) (a : Nat) (ha : a ∈ p) :
    Calls Try.prog 50 #[.pointer (some ⟨Xb, 0, none⟩), .int .i64 (a : Int)] w (fun r w' => r = .returned (.tuple #[]) ∧ ToldP w wB B Xb s mb rv lv ws p (fs ++ objE ws p a) w') := by
  obtain ⟨ha1, ha2, hg⟩ := hp a ha
  obtain ⟨x, hx⟩ : ∃ x, x = ws.getD a 0#64 := ⟨_, rfl⟩
  have hp2 : ∀ a ∈ p, a < 8192 ∧ 1 ≤ szX (ws.getD a 0#64) := fun y hy => by
    obtain ⟨_, h2, h3⟩ := hp y hy
    have := (goodX_out h3).2.2
    obtain ⟨_, _, _, h5, _, _⟩ := head_of h3
    exact ⟨by omega, by omega⟩
  have hgx := hg
  rw [← hx] at hgx
  obtain ⟨hv, hP64, hB1024, hsx, hsz, hroom⟩ := head_of hgx
  have hal : a < ws.length := by omega
  have hHd := fun W (hb : Below B wB W) => sphead_in W Bs s g v ws b t e (hS.at_ hb) a ha1 ha2 (by omega) hal
  have hxe : ws[a] = x := by rw [hx, List.getD_eq_getElem?_getD, List.getElem?_eq_getElem hal]; rfl
  rw [hxe, hv] at hHd
  have HHd := Lib.hid hHd
  obtain ⟨P, hP⟩ : ∃ P, P = P0 x := ⟨_, rfl⟩
  obtain ⟨n, hn⟩ : ∃ P, P = B0 x := ⟨_, rfl⟩
  obtain ⟨sz, hszz⟩ : ∃ P, P = szX x := ⟨_, rfl⟩
  rw [← hP, ← hn] at HHd
  rw [← hP] at hP64 hsx
  rw [← hn] at hB1024 hsx
  rw [← hszz] at hsx hroom
  have HG := Lib.hid (fun W (hb : Below B wB W) (i : Nat) (hi : i < ws.length) => get_in W Bs g v ws i hi (by omega) (hS.at_ hb).mem)
  have HSp := Lib.hid hS
  have H := Lib.hid h
  have HBw := Lib.hid hbw
  have Hp2 := Lib.hid hp2
  have HX := Lib.hid (And.intro hx (And.intro hP (And.intro hn (And.intro hszz hg))))
  have HL := Lib.hid (show fs.length ≤ 5000 ∧ a + sz ≤ ws.length ∧ ws.length ≤ 8192 ∧ 1 ≤ sz ∧ 1 + P ≤ sz by omega)
  obtain ⟨c0, c1, c2, c3⟩ := h.four
  have hXl := h.blk.lt
  obtain ⟨G, hG⟩ : ∃ G, G = fs ++ ptrF ws p a P 0 := ⟨_, rfl⟩
  have HGe := Lib.hid hG
  have aI : (a : Int) ≤ 8192 := by omega
  have a0 : (0 : Int) ≤ (a : Int) := by omega
  have nI : (n : Int) ≤ 1024 := by omega
  have n0 : (0 : Int) ≤ (n : Int) := by omega
  have PI : (P : Int) ≤ 64 := by omega
  have Ha := Lib.hid ha
  clear hv hgx hg hp hp2 ha hx hP hn hszz hsz hHd hS h hbw hxe hG hl hsx hroom ha1 ha2 htl hw hal
  go_enter Try.func50, Try.ntmps50
  go_wp2_with fail
  refine Calls.mono (HHd.out w HBw.out) ?_
  rintro r w1 ⟨rfl, b1⟩
  have h1 := H.out.below b1
  have H1 := Lib.hid (And.intro h1 (And.intro b1 (HBw.out.trans (b1.mono H.out.lts.2.2.2.2))))
  clear b1 h1 c0 c1 c2 c3
  go_wp2_with fail
  obtain ⟨Hb, hHb⟩ : ∃ H, H = w1.heap.size := ⟨_, rfl⟩
  obtain ⟨w2, hw2⟩ : ∃ w3, w3 = w1.alloc (.cells #[.int .i64 (P : Int), .int .i64 (n : Int), .bool false, .int .i64 0] 111) := ⟨_, rfl⟩
  have hbk : Bk w2 Hb 111 #[.int .i64 (P : Int), .int .i64 (n : Int), .bool false, .int .i64 0] := by rw [hw2, hHb]; exact Bk.new w1 _ _
  have b12 : Below w1.heap.size w1 w2 := by rw [hw2]; exact Gw.alloc w1 _
  rw [← hw2, ← hHb]
  have HS0 : Hid (∃ lv' fs', LkAt w2 B Xb s mb rv lv' ws p fs' ∧ fs' ++ ptrF ws p a (P - 0) 0 = G ∧ Bk w2 Hb 111 #[.int .i64 (P : Int), .int .i64 (n : Int), .bool false, .int .i64 0] ∧ (∀ k, lv'.ownBlock = some k → k ≠ Hb) ∧ Kept (fun k => k = Xb ∨ lv.ownBlock = some k) w w2 ∧ (∀ k, lv'.ownBlock = some k → lv.ownBlock = some k ∨ w.heap.size ≤ k) ∧ Below B wB w2 ∧ fs'.length ≤ 5000 + 0) := Lib.hid
    ⟨lv, fs, H1.out.1.below b12, HGe.out.symm, hbk, fun k hk e => by have := (H1.out.1.lts.2.2.2.1 k hk).2; omega, (Kept.of_below H1.out.2.1 _).trans (Kept.of_below b12 _), fun k hk => .inl hk, H1.out.2.2.trans (b12.mono H1.out.1.lts.2.2.2.2), HL.out.1⟩
  have hHl := hbk.lt
  obtain ⟨g0, g1, g2, g3⟩ := hbk.four
  have hHX : Hb ≠ Xb := by have := H1.out.1.blk.lt; omega
  have HHX := Lib.hid (show Hb ≠ Xb ∧ w.heap.size ≤ Hb from ⟨hHX, by have := H1.out.2.1.size; omega⟩)
  clear hbk b12 hw2 hHb
  go_wp2_with fail
  go_loopw [27] (fun x W => ∃ i : Nat, x = .int .i64 i ∧ i ≤ P ∧ Hid (∃ lv' fs', LkAt W B Xb s mb rv lv' ws p fs' ∧ fs' ++ ptrF ws p a (P - i) i = G ∧ Bk W Hb 111 #[.int .i64 (P : Int), .int .i64 (n : Int), .bool false, .int .i64 0] ∧ (∀ k, lv'.ownBlock = some k → k ≠ Hb) ∧ Kept (fun k => k = Xb ∨ lv.ownBlock = some k) w W ∧ (∀ k, lv'.ownBlock = some k → lv.ownBlock = some k ∨ w.heap.size ≤ k) ∧ Below B wB W ∧ fs'.length ≤ 5000 + i)) (fun x _ => P - (Go.RowKit.intOf x).toNat)
  case atStart => exact ⟨0, rfl, Nat.zero_le _, HS0⟩
  case round =>
    obtain ⟨i, rfl, hi, hS⟩ := hrel
    clear HS0 g0 g1 g2 g3 hHl
    obtain ⟨lv', fs', e1, e2, e3, e4, e5, e6, e7, e8⟩ := hS.out
    have p0 : (0 : Int) ≤ (i : Int) := by omega
    obtain ⟨c0, c1, c2, c3⟩ := e1.four
    have hXl := e1.blk.lt
    have sp := HSp.out.at_ e7
    obtain ⟨d0, d1, d2, d3⟩ := sp.four
    have hsl := sp.blk.lt
    by_cases hlt : i < P
    · have p1 : (i : Int) < (P : Int) := by omega
      obtain ⟨q, hq⟩ : ∃ q, q = a + 1 + i := ⟨_, rfl⟩
      have hql : q < ws.length := by have := HL.out; omega
      have q8 : (a : Int) + 1 + (i : Int) = (q : Int) := by omega
      have HGt := Lib.hid (HG.out wr e7 q hql)
      obtain ⟨y, hy⟩ : ∃ y, y = ws[q] := ⟨_, rfl⟩
      rw [← hy] at HGt
      have hye : ws.getD (a + 1 + i) 0#64 = y := by rw [← hq, hy, List.getD_eq_getElem?_getD, List.getElem?_eq_getElem hql]; rfl
      have HLd := Lib.hid (leads_c wr e1 y Hp2.out)
      obtain ⟨r, hr⟩ : ∃ r, r = decide (y.toNat = 0 ∨ (1 ≤ y.toNat ∧ y.toNat - 1 ∈ p)) := ⟨_, rfl⟩
      have hpn : ptrN ws p a i = r := by unfold ptrN; rw [hye, hr]
      rw [← hr] at HLd
      obtain ⟨j, hj⟩ : ∃ j, P - i = j + 1 := ⟨P - i - 1, by omega⟩
      rw [hj, ptrF_at, hpn] at e2
      have hj2 : P - (i + 1) = j := by omega
      have HE := Lib.hid (And.intro e1 (And.intro e2 (And.intro e3 (And.intro e4 (And.intro e5 (And.intro e6 (And.intro e7 (And.intro e8 (And.intro hj2 hq)))))))))
      have qI : (q : Int) ≤ 8192 := by have := HL.out; omega
      obtain ⟨xv, hxv⟩ : ∃ xv, xv = U64 y := ⟨_, rfl⟩
      rw [← hxv] at HGt HLd
      clear e1 e2 e3 e4 e5 e6 e7 e8 hS hy hye hr hpn hj hj2 hq sp hxv
      cases r with
      | true =>
        go_wp2_with fail
        refine Calls.mono HGt.out ?_
        rintro r w6 ⟨rfl, rfl⟩
        go_wp2_with fail
        refine Calls.mono HLd.out ?_
        rintro r w7 ⟨rfl, b7⟩
        have HN : Hid (∃ lv' fs', LkAt w7 B Xb s mb rv lv' ws p fs' ∧ fs' ++ ptrF ws p a (P - (i + 1)) (i + 1) = G ∧ Bk w7 Hb 111 #[.int .i64 (P : Int), .int .i64 (n : Int), .bool false, .int .i64 0] ∧ (∀ k, lv'.ownBlock = some k → k ≠ Hb) ∧ Kept (fun k => k = Xb ∨ lv.ownBlock = some k) w w7 ∧ (∀ k, lv'.ownBlock = some k → lv.ownBlock = some k ∨ w.heap.size ≤ k) ∧ Below B wB w7 ∧ fs'.length ≤ 5000 + (i + 1)) := by
          obtain ⟨e1, e2, e3, e4, e5, e6, e7, e8, hj2, hq⟩ := HE.out
          exact Lib.hid ⟨lv', fs', e1.below b7, by rw [hj2]; exact e2, e3.below b7 e3.lt, e4, e5.trans (Kept.of_below b7 _), e6, e7.trans (b7.mono e1.lts.2.2.2.2), by omega⟩
        clear b7 c0 c1 c2 c3 d0 d1 d2 d3
        go_wp2_with fail
        go_roundw
        case rel => first | exact ⟨i + 1, by go_num, by omega, HN⟩ | ((repeat apply Exists.intro); refine ⟨?_, rfl⟩; exact ⟨i + 1, by go_num, by omega, HN⟩)
        case measure => simp [Go.RowKit.intOf]; omega
      | false =>
        go_wp2_with fail
        refine Calls.mono HGt.out ?_
        rintro r w6 ⟨rfl, rfl⟩
        go_wp2_with fail
        refine Calls.mono HLd.out ?_
        rintro r w7 ⟨rfl, b7⟩
        have HT := Lib.hid (tell_c w7 (HE.out.1.below b7) (by have := HE.out.2.2.2.2.2.2.2.1; omega) q ptrS)
        have HB7 := Lib.hid b7
        clear b7 c0 c1 c2 c3 d0 d1 d2 d3
        unfold ptrS at HT
        go_wp2_with fail
        refine Calls.mono HT.out ?_
        rintro r w8 ⟨rfl, lv8, h8, k8, n8⟩
        have HN : Hid (∃ lv' fs', LkAt w8 B Xb s mb rv lv' ws p fs' ∧ fs' ++ ptrF ws p a (P - (i + 1)) (i + 1) = G ∧ Bk w8 Hb 111 #[.int .i64 (P : Int), .int .i64 (n : Int), .bool false, .int .i64 0] ∧ (∀ k, lv'.ownBlock = some k → k ≠ Hb) ∧ Kept (fun k => k = Xb ∨ lv.ownBlock = some k) w w8 ∧ (∀ k, lv'.ownBlock = some k → lv.ownBlock = some k ∨ w.heap.size ≤ k) ∧ Below B wB w8 ∧ fs'.length ≤ 5000 + (i + 1)) := by
          obtain ⟨e1, e2, e3, e4, e5, e6, e7, e8, hj2, hq⟩ := HE.out
          have b7 := HB7.out
          have s7 := b7.size
          have s5 := e5.size
          have hH := e3.lt
          have own9 : ∀ k, k = Xb ∨ lv'.ownBlock = some k → k = Xb ∨ lv.ownBlock = some k ∨ w.heap.size ≤ k := fun k hk => hk.elim .inl (fun h => .inr (e6 k h))
          have k58 : Kept (fun k => k = Xb ∨ lv.ownBlock = some k) w w8 := by
            have q1 := e5.trans (Kept.of_below b7 _)
            refine ⟨k8.os.trans q1.os, k8.tape.trans q1.tape, k8.output.trans q1.output, Nat.le_trans q1.size k8.size, fun j hj hn => ?_⟩
            refine (k8.block j (Nat.lt_of_lt_of_le hj q1.size) (fun h => ?_)).trans (q1.block j hj hn)
            rcases own9 j h with h | h | h
            · exact hn (.inl h)
            · exact hn (.inr h)
            · omega
          have hB := e1.lts.2.2.2.2
          refine Lib.hid ⟨lv8, fs' ++ [(q, ptrS)], h8, ?_, k8.bk (e3.below b7 hH) (fun h => h.elim (fun h => HHX.out.1 h) (fun h => e4 _ h rfl)), fun k hk e => ?_, k58, fun k hk => ?_, (e7.trans (b7.mono hB)).trans (k8.below (by omega) (fun k hk => ?_)), by simp; omega⟩
          · rw [hj2, ← e2, hq, List.append_assoc]
            rfl
          · rcases n8 k hk with h | h
            · exact e4 k h e
            · omega
          · rcases n8 k hk with h | h
            · exact e6 k h
            · exact .inr (by omega)
          · rcases hk with hk | hk
            · rw [hk]; exact e1.BX.1
            · exact (e1.lts.2.2.2.1 k hk).1
        clear h8 k8 n8
        go_wp2_with fail
        go_roundw
        case rel => first | exact ⟨i + 1, by go_num, by omega, HN⟩ | ((repeat apply Exists.intro); refine ⟨?_, rfl⟩; exact ⟨i + 1, by go_num, by omega, HN⟩)
        case measure => simp [Go.RowKit.intOf]; omega
    · have p1 : ¬ (i : Int) < (P : Int) := by omega
      have hiP : i = P := by omega
      have hG : fs' = G := by rw [← e2, show P - i = 0 by omega]; exact (List.append_nil _).symm
      obtain ⟨u, hu⟩ : ∃ u, u = n % 8 := ⟨_, rfl⟩
      have hu1 : (n : Int) % 8 = (u : Int) := by omega
      have hu2 : (n : Int).tmod 8 = (u : Int) := by rw [Int.tmod_eq_emod_of_nonneg (by omega)]; exact hu1
      have hlk := e1.mp.look (k := (a : Int)) (by simp [Lit.wf, IntKind.min, IntKind.max, IntKind.signed, IntKind.bits]; omega)
      rw [siz_look, if_pos Ha.out, ← HX.out.1, ← HX.out.2.2.2.1] at hlk
      have hlk : (Instr.lookup 70 (.map (some mb)) (.int .i64 (a : Int)) false).run Try.prog wr = .ok (.int .i64 (sz : Int)) wr := hlk
      obtain ⟨g0, g1, g2, g3⟩ := e3.four
      have hHl := e3.lt
      have s1 : (sz : Int) ≤ 8192 := by have := HL.out; omega
      have s2 : (1 : Int) ≤ (sz : Int) := by have := HL.out; omega
      have HE := Lib.hid (And.intro e1 (And.intro hG (And.intro e4 (And.intro e5 (And.intro e6 (And.intro e7 e8))))))
      by_cases h0 : u = 0
      · have HPd : padF ws a = [] := by
          unfold padF
          rw [if_pos (padN_zero HX.out.2.2.2.2 (by rw [← HX.out.1, ← HX.out.2.2.1, ← hu]; exact h0))]
        have HPd := Lib.hid HPd
        subst h0
        clear e1 e2 e3 e4 e5 e6 e7 e8 hS hG sp hu
        go_wp2_with fail
        refine bodyPost_ret (results_none (by kernel_rfl) _ _ _) rfl ?_
        obtain ⟨e1, hG, e4, e5, e6, e7, e8⟩ := HE.out
        refine ⟨rfl, lv', ?_, e5, e6, e7⟩
        unfold objE
        rw [HPd.out, List.append_nil, ← HX.out.1, ← HX.out.2.1, ← HGe.out, ← hG]
        exact e1
      · obtain ⟨la, hla⟩ : ∃ la, la = a + sz - 1 := ⟨_, rfl⟩
        have hla2 : (a : Int) + (sz : Int) - 1 = (la : Int) := by omega
        have hll : la < ws.length := by have := HL.out; omega
        have HGt := Lib.hid (HG.out wr e7 la hll)
        obtain ⟨y, hy⟩ : ∃ y, y = ws[la] := ⟨_, rfl⟩
        rw [← hy] at HGt
        have hye : ws.getD la 0#64 = y := by rw [hy, List.getD_eq_getElem?_getD, List.getElem?_eq_getElem hll]; rfl
        have hpn : padN ws a = decide (y >>> (8 * u) = 0#64) := by
          rw [padN_some HX.out.2.2.2.2 (by rw [← HX.out.1, ← HX.out.2.2.1, ← hu]; exact h0), ← HX.out.1, ← HX.out.2.2.1, ← hu, ← HX.out.2.2.2.1, ← hla, hye]
        have HPn := Lib.hid (And.intro hpn (And.intro hla hla2))
        have hu0 : ¬ (u : Int) = 0 := by omega
        have hu3 : (u : Int) ≤ 7 := by omega
        have hu4 : (1 : Int) ≤ (u : Int) := by omega
        have la1 : (la : Int) ≤ 8192 := by have := HL.out; omega
        clear e1 e2 e3 e4 e5 e6 e7 e8 hS hG sp hu hpn hye hy hla hll
        go_wp2_with fail
        refine Calls.mono HGt.out ?_
        rintro r w6 ⟨rfl, hw6⟩
        subst hw6
        by_cases hz0 : y >>> (8 * u) = 0#64
        · have hz : (U64 y / 2 ^ (8 * u) != 0) = false := by rw [shrU64, hz0]; rfl
          have HPd := Lib.hid (show padF ws a = [] from by unfold padF; rw [if_pos (by rw [HPn.out.1]; exact decide_eq_true hz0)])
          clear hz0
          go_wp2_with fail
          go_end0
          obtain ⟨e1, hG, e4, e5, e6, e7, e8⟩ := HE.out
          refine ⟨rfl, lv', ?_, e5, e6, e7⟩
          unfold objE
          rw [HPd.out, List.append_nil, ← HX.out.1, ← HX.out.2.1, ← HGe.out, ← hG]
          exact e1
        · have hz : (U64 y / 2 ^ (8 * u) != 0) = true := by
            rw [shrU64]
            simp only [bne_iff_ne, ne_eq]
            intro h
            apply hz0
            apply BitVec.eq_of_toNat_eq
            have h2 : ((y >>> (8 * u)).toNat : Int) = 0 := h
            have h3 : (y >>> (8 * u)).toNat = 0 := by omega
            rw [h3]; rfl
          have HPd := Lib.hid (show padF ws a = [(la, padS)] from by unfold padF; rw [if_neg (by rw [HPn.out.1, decide_eq_true_eq]; exact hz0), ← HX.out.1, ← HX.out.2.2.2.1, ← HPn.out.2.1])
          have HT := Lib.hid (tell_c w6 HE.out.1 (by have := HE.out.2.2.2.2.2.2; omega) la padS)
          clear hz0 c0 c1 c2 c3 d0 d1 d2 d3 g0 g1 g2 g3
          unfold padS at HT
          go_wp2_with fail
          refine Calls.mono HT.out ?_
          rintro r w8 ⟨rfl, lv8, h8, k8, n8⟩
          have H8 := Lib.hid (And.intro h8 (And.intro k8 n8))
          clear h8 k8 n8 hlk hz
          go_wp2_with fail
          go_end0
          obtain ⟨e1, hG, e4, e5, e6, e7, e8⟩ := HE.out
          obtain ⟨h8, k8, n8⟩ := H8.out
          have s5 := e5.size
          refine ⟨rfl, lv8, ?_, ?_, fun k hk => ?_, ?_⟩
          · unfold objE
            rw [HPd.out, ← HX.out.1, ← HX.out.2.1, ← List.append_assoc, ← HGe.out, ← hG]
            exact h8
          · refine ⟨k8.os.trans e5.os, k8.tape.trans e5.tape, k8.output.trans e5.output, Nat.le_trans e5.size k8.size, fun j hj hn => ?_⟩
            refine (k8.block j (Nat.lt_of_lt_of_le hj e5.size) (fun h => ?_)).trans (e5.block j hj hn)
            rcases h with h | h
            · exact hn (.inl h)
            · rcases e6 j h with h | h
              · exact hn (.inr h)
              · omega
          · rcases n8 k hk with h | h
            · exact e6 k h
            · exact .inr (by omega)
          · refine e7.trans (k8.below e1.lts.2.2.2.2 (fun k hk => ?_))
            rcases hk with hk | hk
            · rw [hk]; exact e1.BX.1
            · exact (e1.lts.2.2.2.1 k hk).1
end
end Go.Proofs.Ytaminpfgkegibaa
/- check.looked: objects. Conditions: right objects. -/
namespace Go.Proofs.Ytaminpfgkegibaa
set_option linter.unusedVariables false
set_option linter.unusedSimpArgs false
open Go.RowKit Go.Maps
set_option maxHeartbeats 4000000
set_option maxRecDepth 100000
section
variable {wB W W' : World} {B Bs Xb s g mb : Nat} {v rv lv : Value} {ws : List (BitVec 64)} {b t e : Nat} {p : List Nat} {fs : List (Nat × ByteArray)}
theorem ToldP.trans {w w1 w2 : World} {lv1 : Value} (e5 : Kept (fun k => k = Xb ∨ lv.ownBlock = some k) w w1) (e6 : ∀ k, lv1.ownBlock = some k → lv.ownBlock = some k ∨ w.heap.size ≤ k) (h : ToldP w1 wB B Xb s mb rv lv1 ws p fs w2) : ToldP w wB B Xb s mb rv lv ws p fs w2 := by
  obtain ⟨lv8, h8, k8, n8, b8⟩ := h
  have s5 := e5.size
  refine ⟨lv8, h8, ⟨k8.os.trans e5.os, k8.tape.trans e5.tape, k8.output.trans e5.output, Nat.le_trans e5.size k8.size, fun j hj hn => ?_⟩, fun k hk => ?_, b8⟩
  · refine (k8.block j (Nat.lt_of_lt_of_le hj e5.size) (fun h => ?_)).trans (e5.block j hj hn)
    rcases h with h | h
    · exact hn (.inl h)
    · rcases e6 j h with h | h
      · exact hn (.inr h)
      · omega
  · rcases n8 k hk with h | h
    · exact e6 k h
    · exact .inr (by omega)
theorem lkobj_c (w : World) (hS : SpB wB B Bs s g v ws b t e) (hbw : Below B wB w) (h : LkAt w B Xb s mb rv lv ws p fs) (hl : (fs ++ allE ws p p).length ≤ 5000) (hw : ws.length ≤ 8192) (htl : t ≤ ws.length) (hp : ∀ a ∈ p, b ≤ a ∧ a < t ∧ goodX (ws.getD a 0#64) (t - a) = true) (hpl : p.length ≤ 8192) :
    Calls Try.prog 24 #[.pointer (some ⟨Xb, 0, none⟩)] w (fun r w' => r = .returned (.tuple #[]) ∧ ToldP w wB B Xb s mb rv lv ws p (fs ++ allE ws p p) w') := by
  obtain ⟨c0, c1, c2, c3⟩ := h.four
  have hXl := h.blk.lt
  obtain ⟨A, c, e0, _⟩ := h.row.form
  obtain ⟨N, hN⟩ : ∃ N, N = p.length := ⟨_, rfl⟩
  rw [← hN] at e0
  subst e0
  have HN := Lib.hid hN
  have HH := Lib.hid (And.intro hS (And.intro hw (And.intro htl hp)))
  obtain ⟨G, hG⟩ : ∃ G, G = fs ++ allE ws p p := ⟨_, rfl⟩
  rw [← hG] at hl ⊢
  have HL := Lib.hid hl
  have HS0 : Hid (∃ lv' fs', LkAt w B Xb s mb (.slice A N c) lv' ws p fs' ∧ fs' ++ allE ws p (p.drop 0) = G ∧ Kept (fun k => k = Xb ∨ lv.ownBlock = some k) w w ∧ (∀ k, lv'.ownBlock = some k → lv.ownBlock = some k ∨ w.heap.size ≤ k) ∧ Below B wB w) := Lib.hid ⟨lv, fs, h, by rw [hG]; rfl, Kept.refl _ _, fun k hk => .inl hk, hbw⟩
  have N8 : (N : Int) ≤ 8192 := by omega
  clear hS hw htl hp hpl hG hl hbw h hN
  go_enter Try.func24, Try.ntmps24
  go_wp2_with fail
  go_loopw [9] (fun x W => ∃ i : Nat, x = .int .i64 i ∧ i ≤ N ∧ Hid (∃ lv' fs', LkAt W B Xb s mb (.slice A N c) lv' ws p fs' ∧ fs' ++ allE ws p (p.drop i) = G ∧ Kept (fun k => k = Xb ∨ lv.ownBlock = some k) w W ∧ (∀ k, lv'.ownBlock = some k → lv.ownBlock = some k ∨ w.heap.size ≤ k) ∧ Below B wB W)) (fun x _ => N - (Go.RowKit.intOf x).toNat)
  case atStart => exact ⟨0, rfl, Nat.zero_le _, HS0⟩
  case round =>
    obtain ⟨i, rfl, hi, hS⟩ := hrel
    clear HS0 c0 c1 c2 c3 hXl
    obtain ⟨lv', fs', e1, e2, e3, e4, e5⟩ := hS.out
    have p0 : (0 : Int) ≤ (i : Int) := by omega
    by_cases hlt : i < N
    · have p1 : (i : Int) < (N : Int) := by omega
      have hil : i < p.length := by rw [← HN.out]; exact hlt
      have hrow : Ow iN 3 wr B (.slice A p.length c) p := by rw [← HN.out]; exact e1.row
      obtain ⟨ad, rfl, hlt2, hc⟩ := hrow.rd i hil
      obtain ⟨a, ha⟩ : ∃ a, a = p[i] := ⟨_, rfl⟩
      rw [← ha] at hc
      unfold iN at hc
      have hdr : p.drop i = a :: p.drop (i + 1) := by rw [List.drop_eq_getElem_cons hil, ha]
      rw [hdr] at e2
      have e2' : fs' ++ objE ws p a ++ allE ws p (p.drop (i + 1)) = G := by rw [List.append_assoc]; exact e2
      have hfl : fs'.length ≤ 5000 := by
        have h1 := HL.out
        rw [← e2', List.length_append, List.length_append] at h1
        omega
      have HO := Lib.hid (object_c wr HH.out.1 e5 e1 hfl HH.out.2.1 HH.out.2.2.1 HH.out.2.2.2 a (by rw [ha]; exact List.getElem_mem _))
      have HE := Lib.hid (And.intro e2' (And.intro e3 e4))
      clear e1 e2 e2' e3 e4 e5 hS ha hdr hfl hil hrow
      go_wp2_with fail
      refine Calls.mono HO.out ?_
      rintro r w6 ⟨rfl, ht⟩
      obtain ⟨lv8, h8, k8, n8, b8⟩ := ToldP.trans HE.out.2.1 HE.out.2.2 ht
      have HNx : Hid (∃ lv' fs', LkAt w6 B Xb s mb (.slice (some ad) N c) lv' ws p fs' ∧ fs' ++ allE ws p (p.drop (i + 1)) = G ∧ Kept (fun k => k = Xb ∨ lv.ownBlock = some k) w w6 ∧ (∀ k, lv'.ownBlock = some k → lv.ownBlock = some k ∨ w.heap.size ≤ k) ∧ Below B wB w6) := Lib.hid ⟨lv8, _, h8, HE.out.1, k8, n8, b8⟩
      clear ht h8 k8 n8 b8 hc hlt2
      go_wp2_with fail
      go_roundw
      case rel => first | exact ⟨i + 1, by go_num, by omega, HNx⟩ | ((repeat apply Exists.intro); refine ⟨?_, rfl⟩; exact ⟨i + 1, by go_num, by omega, HNx⟩)
      case measure => simp [Go.RowKit.intOf]; omega
    · have p1 : ¬ (i : Int) < (N : Int) := by omega
      have hG : fs' = G := by
        rw [← e2, List.drop_of_length_le (by rw [← HN.out]; omega)]
        exact (List.append_nil _).symm
      have HE := Lib.hid (And.intro e1 (And.intro hG (And.intro e3 (And.intro e4 e5))))
      clear e1 e2 e3 e4 e5 hS hG
      go_wp2_with fail
      go_end0
      obtain ⟨e1, hG, e3, e4, e5⟩ := HE.out
      exact ⟨rfl, lv', hG ▸ e1, e3, e4, e5⟩
end
end Go.Proofs.Ytaminpfgkegibaa
/- The reference's Well: among, Points. Conditions: lengths. (BEGUN: what builds stands here.) -/
namespace Go.Proofs.Ytaminpfgkegibaa
set_option linter.unusedVariables false
set_option linter.unusedSimpArgs false
open Go.RowKit
set_option maxHeartbeats 1000000
set_option maxRecDepth 100000
theorem among_c (w : World) (A : Option Addr) (c : Nat) (l : List Nat) (hr : Rd iN w w.heap.size A l) (hl : l.length ≤ 100000) (x : Int) :
    Calls Try.prog 68 #[.slice A l.length c, .int .i64 x] w (RetP (.bool (decide (∃ y ∈ l, (y : Int) = x))) w) := by
  obtain ⟨R, hR⟩ : ∃ R, R = decide (∃ y ∈ l, (y : Int) = x) := ⟨_, rfl⟩
  rw [← hR]
  obtain ⟨N, hN⟩ : ∃ N, N = l.length := ⟨_, rfl⟩
  rw [← hN]
  have qN : (N : Int) ≤ 100000 := by omega
  have HR := Lib.hid hR
  have HN := Lib.hid hN
  have HD := Lib.hid hr
  clear hR hN hr hl
  go_enter Try.func68, Try.ntmps68
  go_wp2_with fail
  go_loopw [5] (fun i W => ∃ k : Nat, i = .int .i64 k ∧ k ≤ N ∧ Hid (∀ y ∈ l.take k, (y : Int) ≠ x) ∧ Below w.heap.size w W) (fun i _ => N - (Go.RowKit.intOf i).toNat)
  case atStart => exact ⟨0, rfl, Nat.zero_le _, Lib.hid (by simp), Below.refl _ _⟩
  case round =>
    obtain ⟨k, rfl, hk, hS, hB⟩ := hrel
    by_cases hlt : k < N
    · have q1 : (0 : Int) ≤ (k : Int) := by omega
      have q2 : (k : Int) < (N : Int) := by omega
      have hkl : k < l.length := by rw [← HN.out]; exact hlt
      obtain ⟨yn, hyn⟩ : ∃ yn : Nat, l[k]? = some yn := ⟨_, List.getElem?_eq_getElem hkl⟩
      have hye : l[k] = yn := (List.getElem?_eq_some_iff.1 hyn).2
      obtain ⟨y, hy⟩ : ∃ y : Int, y = (yn : Int) := ⟨_, rfl⟩
      obtain ⟨ad, rfl, hcell⟩ : ∃ ad, A = some ad ∧ wr.cell? (ad.add k) = some (.int .i64 y) := by
        obtain ⟨ad, e, _, hc⟩ := (HD.out.below hB) k hkl
        exact ⟨ad, e, by rw [hy, ← hye]; exact hc⟩
      have HY := Lib.hid (show y = (yn : Int) ∧ yn ∈ l ∧ l.take (k + 1) = l.take k ++ [yn] from ⟨hy, List.mem_of_getElem? hyn, by rw [List.take_succ_eq_append_getElem hkl, hye]⟩)
      have HB := Lib.hid hB
      clear hy hye hyn hkl hB
      by_cases he : y = x
      · have hRt := Lib.hid (show R = true from by
          rw [HR.out]
          exact decide_eq_true ⟨yn, HY.out.2.1, by rw [← HY.out.1]; exact he⟩)
        go_wp2_with fail
        go_ret
        exact ⟨by rw [hRt.out]; rfl, HB.out⟩
      · have HX := Lib.hid (show ∀ z ∈ l.take (k + 1), (z : Int) ≠ x from by
          intro z hz
          rw [HY.out.2.2] at hz
          rcases List.mem_append.1 hz with hz | hz
          · exact hS.out z hz
          · rw [List.mem_singleton.1 hz, ← HY.out.1]; exact he)
        clear hS
        go_wp2_with fail
        go_roundw
        case rel => first | exact ⟨k + 1, by go_num, by omega, HX, HB.out⟩ | ((repeat apply Exists.intro); refine ⟨?_, rfl⟩; exact ⟨k + 1, by go_num, by omega, HX, HB.out⟩)
        case measure => simp [Go.RowKit.intOf]; omega
    · have hNk : N = k := by omega
      have hRf := Lib.hid (show R = false from by
        rw [HR.out]
        refine decide_eq_false ?_
        rintro ⟨y, hy, e⟩
        have := hS.out y (by rw [← hNk, HN.out, List.take_length]; exact hy)
        exact this e)
      have HB := Lib.hid hB
      clear hS hB hlt hk
      subst hNk
      go_wp2_with fail
      go_ret
      exact ⟨by rw [hRf.out]; rfl, HB.out⟩
theorem points_c (w : World) (A : Option Addr) (c : Nat) (l : List Nat) (hr : Rd iN w w.heap.size A l) (hl : l.length ≤ 100000) (hb : ∀ y ∈ l, y < 1073741824) (x : BitVec 64) :
    Calls Try.prog 32 #[.slice A l.length c, .int .u64 (U64 x)] w (RetP (.bool (decide (x.toNat = 0 ∨ (1 ≤ x.toNat ∧ x.toNat - 1 ∈ l)))) w) := by
  obtain ⟨R, hR⟩ : ∃ R, R = decide (x.toNat = 0 ∨ (1 ≤ x.toNat ∧ x.toNat - 1 ∈ l)) := ⟨_, rfl⟩
  rw [← hR]
  obtain ⟨m, hm⟩ : ∃ m : Nat, m = x.toNat := ⟨_, rfl⟩
  have hx : U64 x = (m : Int) := by rw [hm]; rfl
  rw [hx]
  rw [← hm] at hR
  have HA := Lib.hid (fun z => among_c w A c l hr hl z)
  have m1 : (m : Int) < 18446744073709551616 := by have := x.isLt; omega
  have m0 : (0 : Int) ≤ (m : Int) := by omega
  obtain ⟨N, hN⟩ : ∃ N, N = l.length := ⟨_, rfl⟩
  rw [← hN] at HA ⊢
  have HR := Lib.hid (And.intro hR hb)
  clear hr hl hb hx hm hR hN
  by_cases c0 : m = 0
  · subst c0
    have hT := Lib.hid (show R = true from by rw [HR.out.1]; exact decide_eq_true (.inl rfl))
    go_enter Try.func32, Try.ntmps32
    go_wp2_with fail
    go_ret
    exact ⟨by rw [hT.out]; rfl, Below.refl _ _⟩
  obtain ⟨d, hd⟩ : ∃ d : Nat, m = d + 1 := ⟨m - 1, by omega⟩
  obtain ⟨z, hz⟩ : ∃ z : Int, z = (m : Int) := ⟨_, rfl⟩
  rw [← hz]
  have z1 : (1 : Int) ≤ z := by omega
  have z2 : z < 18446744073709551616 := by omega
  have e1 : z - 1 = (d : Int) := by omega
  have n0 : z ≠ 0 := by omega
  have d1 : (d : Int) < 18446744073709551616 := by omega
  subst hd
  clear m1 m0 c0 hz
  by_cases c1 : (d : Int) < 1073741824
  · have hV := Lib.hid (show R = decide (∃ y ∈ l, (y : Int) = (d : Int)) from by
      rw [HR.out.1]
      refine decide_eq_decide.2 ⟨fun h => ?_, fun h => ?_⟩
      · rcases h with h | ⟨_, h⟩
        · omega
        · exact ⟨d, by simpa using h, rfl⟩
      · obtain ⟨y, hy, e⟩ := h
        right
        have : y = d := by omega
        subst this
        exact ⟨by omega, by simpa using hy⟩)
    have HC := Lib.hid (HA.out (d : Int))
    rw [← hV.out] at HC
    clear HA hV
    go_enter Try.func32, Try.ntmps32
    go_wp2_with fail
    refine Calls.mono HC.out ?_
    rintro r w1 ⟨rfl, b1⟩
    have HB := Lib.hid b1
    clear b1
    go_wp2_with fail
    go_ret
    exact ⟨by simp [n0], HB.out⟩
  · have hF := Lib.hid (show R = false from by
      rw [HR.out.1]
      refine decide_eq_false ?_
      rintro (h | ⟨_, h⟩)
      · omega
      · have := HR.out.2 _ h
        omega)
    clear HA
    go_enter Try.func32, Try.ntmps32
    go_wp2_with fail
    go_ret
    exact ⟨by rw [hF.out]; simp [n0], Below.refl _ _⟩
theorem byte_val (ws : List (BitVec 64)) (i r : Nat) (hr : i % 8 = r) : IntKind.u8.wrap (U64 (ws.getD (i / 8) 0#64) / ((2 ^ (8 * r) : Nat) : Int)) = U8 (byteAt ws i) := by
  unfold byteAt
  rw [hr]
  have e : U8 (((ws.getD (i / 8) 0#64) >>> (8 * r)).setWidth 8) = (((ws.getD (i / 8) 0#64).toNat / 2 ^ (8 * r) % 256 : Nat) : Int) := by
    unfold U8
    rw [BitVec.toNat_setWidth, BitVec.toNat_ushiftRight, Nat.shiftRight_eq_div_pow]
  rw [e, IntKind.wrap_u8]
  unfold U64
  rw [← Int.natCast_ediv]
  rfl
theorem rbyte_c (w : World) (A : Option Addr) (c : Nat) (ws : List (BitVec 64)) (hr : Rd u64v w w.heap.size A ws) (hl : ws.length ≤ 100000) (i : Nat) (hi : i < 8 * ws.length) :
    Calls Try.prog 71 #[.slice A ws.length c, .int .i64 i] w (RetP (.int .u8 (U8 (byteAt ws i))) w) := by
  obtain ⟨N, hN⟩ : ∃ N, N = ws.length := ⟨_, rfl⟩
  rw [← hN]
  have hq : i / 8 < ws.length := by omega
  obtain ⟨x, hx⟩ : ∃ x, x = U64 (ws.getD (i / 8) 0#64) := ⟨_, rfl⟩
  have hxx : u64v ws[i / 8] = .int .u64 x := by
    rw [hx]
    simp [List.getD, hq, u64v]
  obtain ⟨ad, rfl, hcell⟩ : ∃ ad, A = some ad ∧ w.cell? (ad.add (i / 8)) = some (.int .u64 x) := by
    obtain ⟨ad, e, _, hc⟩ := hr (i / 8) hq
    exact ⟨ad, e, by rw [← hxx]; exact hc⟩
  obtain ⟨Q, hQ⟩ : ∃ Q : Nat, Q = i / 8 := ⟨_, rfl⟩
  obtain ⟨I, hI⟩ : ∃ I : Int, I = (i : Int) := ⟨_, rfl⟩
  have e1 : I.tdiv 8 = (Q : Int) := by rw [hI, hQ]; rfl
  have e2 : I / 8 = (Q : Int) := by rw [hI, hQ]; rfl
  have e0 : (0 : Int) ≤ I := by omega
  have e5 : I ≤ 800000 := by omega
  have e3 : (0 : Int) ≤ (Q : Int) := by omega
  have e4 : (Q : Int) < (N : Int) := by omega
  have e6 : (N : Int) ≤ 100000 := by omega
  obtain ⟨r, hr8⟩ : ∃ r, i % 8 = r := ⟨_, rfl⟩
  have HV := Lib.hid (byte_val ws i r hr8)
  rw [← hx] at HV
  obtain ⟨y, hy⟩ : ∃ y, y = U8 (byteAt ws i) := ⟨_, rfl⟩
  rw [← hy] at HV ⊢
  have hm : I.tmod 8 = (r : Int) := by rw [hI, ← hr8]; rfl
  have hr9 : r < 8 := by omega
  rw [← hQ] at hcell
  rw [← hI]
  clear hr hl hi hN hq hx hxx hQ hI hr8 hy
  obtain rfl | rfl | rfl | rfl | rfl | rfl | rfl | rfl : r = 0 ∨ r = 1 ∨ r = 2 ∨ r = 3 ∨ r = 4 ∨ r = 5 ∨ r = 6 ∨ r = 7 := by omega
  · have h := HV.out
    rw [IntKind.wrap_u8, show (((2 ^ (8 * 0) : Nat) : Nat) : Int) = 1 from rfl, Int.ediv_one] at h
    have HE := Lib.hid h
    clear h HV
    go_enter Try.func71, Try.ntmps71
    go_wp2_with fail
    go_ret
    exact ⟨congrArg (fun z => Ending.returned (Value.int .u8 z)) HE.out, Below.refl _ _⟩
  all_goals
    have h := HV.out
    rw [IntKind.wrap_u8] at h
    have HE := Lib.hid h
    clear h HV
    go_enter Try.func71, Try.ntmps71
    go_wp2_with fail
    go_ret
    exact ⟨congrArg (fun z => Ending.returned (Value.int .u8 z)) HE.out, Below.refl _ _⟩
theorem pad_step (ws : List (BitVec 64)) (J k : Nat) (h : (bytesM ws J k).all (· == 0#8) = true) (hz : byteAt ws (J + k) = 0#8) : (bytesM ws J (k + 1)).all (· == 0#8) = true := by
  unfold bytesM at h ⊢
  rw [List.range_succ, List.map_append, List.all_append, h]
  simp [hz]
theorem pad_no (ws : List (BitVec 64)) (J k K : Nat) (hk : k < K) (hz : byteAt ws (J + k) ≠ 0#8) : padB ws J K = false := by
  unfold padB
  cases h : (bytesM ws J K).all (· == 0#8) with
  | false => rfl
  | true =>
    have := List.all_eq_true.1 h (byteAt ws (J + k)) (by unfold bytesM; exact List.mem_map.2 ⟨k, List.mem_range.2 hk, rfl⟩)
    exact absurd (by simpa using this) hz
theorem rpad_c (w : World) (R : Nat) (A : Option Addr) (c : Nat) (ws : List (BitVec 64)) (b t e : Nat) (p : RefAt w R A c ws b t e) (hl : ws.length ≤ 100000) (a P n S : Nat) (hP : P ≤ 64) (hn : n ≤ 1024) (hS : sizeH (P : Int) (n : Int) false 0 = (S : Int)) (hS2 : S ≤ 1000) (ha : a + S ≤ ws.length) (hJ : 8 * (a + 1 + P) + n ≤ 8 * (a + S)) :
    Calls Try.prog 36 #[.pointer (some ⟨R, 0, none⟩), .int .i64 a, .agg #[.int .i64 P, .int .i64 n, .bool false, .int .i64 0]] w (RetP (.bool (!padB ws (8 * (a + 1 + P) + n) (8 * (a + S) - (8 * (a + 1 + P) + n)))) w) := by
  obtain ⟨J, hJe⟩ : ∃ J, J = 8 * (a + 1 + P) + n := ⟨_, rfl⟩
  obtain ⟨K, hKe⟩ : ∃ K, K = 8 * (a + S) - J := ⟨_, rfl⟩
  obtain ⟨Z, hZ⟩ : ∃ Z, Z = padB ws J K := ⟨_, rfl⟩
  rw [← hJe, ← hKe, ← hZ]
  obtain ⟨T, hT⟩ : ∃ T, T = 8 * (a + S) := ⟨_, rfl⟩
  have eJ : 8 * ((a : Int) + 1 + (P : Int)) + (n : Int) = (J : Int) := by omega
  have eT : 8 * ((a : Int) + (S : Int)) = (T : Int) := by omega
  have f1 : (a : Int) ≤ 100000 := by omega
  have f2 : (P : Int) ≤ 64 := by omega
  have f3 : (n : Int) ≤ 1024 := by omega
  have f4 : (S : Int) ≤ 1000 := by omega
  have f5 : (J : Int) ≤ 1000000 := by omega
  have f6 : (T : Int) ≤ 1000000 := by omega
  have HF := Lib.hid (show J ≤ T ∧ K = T - J ∧ Z = padB ws J K ∧ T ≤ 8 * ws.length from ⟨by omega, by omega, hZ, by omega⟩)
  have HSz := Lib.hid (fun W => rsize_c (P : Int) (n : Int) false 0 W)
  rw [hS] at HSz
  have HBy := Lib.hid (fun W (hr : Rd u64v W W.heap.size A ws) (i : Nat) (hi : i < 8 * ws.length) => rbyte_c W A c ws hr hl i hi)
  obtain ⟨L, hL⟩ : ∃ L, L = ws.length := ⟨_, rfl⟩
  have hb0 := Gw.alloc w (.cells #[.int .i64 P, .int .i64 n, .bool false, .int .i64 0] 88)
  have hp0 := (p.below hb0)
  have hk0 := (Bk.new w 88 #[.int .i64 P, .int .i64 n, .bool false, .int .i64 0])
  rw [← hL] at HBy
  clear p hl hP hn hS hS2 ha hJ hJe hKe hZ hT
  go_enter Try.func36, Try.ntmps36
  go_wp2_with fail
  obtain ⟨W0, hW0⟩ : ∃ W0, W0 = (w.alloc (.cells #[.int .i64 P, .int .i64 n, .bool false, .int .i64 0] 88)) := ⟨_, rfl⟩
  obtain ⟨h, hh⟩ : ∃ h, h = w.heap.size := ⟨_, rfl⟩
  have H0 := Lib.hid (show RefAt W0 R A c ws b t e ∧ Bk W0 h 88 #[.int .i64 P, .int .i64 n, .bool false, .int .i64 0] ∧ Below w.heap.size w W0 ∧ L = ws.length from by rw [hW0, hh]; exact ⟨hp0, hk0, hb0, hL⟩)
  rw [← hW0, ← hh]
  clear hW0 hh hb0 hp0 hk0 hL
  go_loopw [8] (fun i W => ∃ j : Nat, i = .int .i64 j ∧ J ≤ j ∧ j ≤ T ∧ Hid ((bytesM ws J (j - J)).all (· == 0#8) = true) ∧ Hid (Below W0.heap.size W0 W)) (fun i _ => T - (Go.RowKit.intOf i).toNat)
  case atStart => exact ⟨J, rfl, Nat.le_refl _, HF.out.1, Lib.hid (by rw [Nat.sub_self]; rfl), Lib.hid (Below.refl _ _)⟩
  case round =>
    obtain ⟨j, rfl, hj1, hj2, hS, hB⟩ := hrel
    obtain ⟨c0, c1, c2, c3⟩ := (H0.out.2.1.below hB.out H0.out.2.1.lt).four
    have q0 : (0 : Int) ≤ (j : Int) := by omega
    go_wp2_with fail
    refine Calls.mono (HSz.out _) ?_
    rintro r w1 ⟨rfl, b1⟩
    have H1 := Lib.hid (show Below W0.heap.size W0 w1 from hB.out.trans (b1.mono hB.out.size))
    clear b1 c0 c1 c2 c3 hB
    by_cases hlt : j < T
    · have q1 : (j : Int) < (T : Int) := by omega
      obtain ⟨y, hy⟩ : ∃ y, y = byteAt ws j := ⟨_, rfl⟩
      have hp1 := H0.out.1.below H1.out
      have HBj := Lib.hid (HBy.out w1 hp1.rd j (by have h1 := HF.out.2.2.2; have h2 := H0.out.2.2.2; omega))
      rw [← hy] at HBj
      obtain ⟨d0, _⟩ := hp1.four
      rw [← H0.out.2.2.2] at d0
      clear hp1
      by_cases hz : y = 0#8
      · subst hz
        have HX := Lib.hid (show (bytesM ws J (j + 1 - J)).all (· == 0#8) = true from by
          rw [show j + 1 - J = j - J + 1 from by omega]
          exact pad_step ws J (j - J) hS.out (by rw [show J + (j - J) = j from by omega]; exact hy.symm))
        go_wp2_with fail
        refine Calls.mono HBj.out ?_
        rintro r w2 ⟨rfl, b2⟩
        have HB2 := Lib.hid (show Below W0.heap.size W0 w2 from H1.out.trans (b2.mono H1.out.size))
        have u0 : U8 0#8 = 0 := rfl
        rw [u0]
        clear b2 d0 hS
        go_wp2_with fail
        go_roundw
        case rel => first | exact ⟨j + 1, by go_num, by omega, by omega, HX, HB2⟩ | ((repeat apply Exists.intro); refine ⟨?_, rfl⟩; exact ⟨j + 1, by go_num, by omega, by omega, HX, HB2⟩)
        case measure => simp [Go.RowKit.intOf]; omega
      · have hZf := Lib.hid (show Z = false from by
          rw [HF.out.2.2.1]
          exact pad_no ws J (j - J) K (by have := HF.out.2.1; omega) (by rw [show J + (j - J) = j from by omega, ← hy]; exact hz))
        have u1 : U8 y ≠ 0 := by
          intro e
          refine hz (BitVec.eq_of_toNat_eq ?_)
          unfold U8 at e
          simpa using e
        obtain ⟨z, hzz⟩ : ∃ z, z = U8 y := ⟨_, rfl⟩
        rw [← hzz] at HBj u1
        clear hS hy hz hzz
        go_wp2_with fail
        refine Calls.mono HBj.out ?_
        rintro r w2 ⟨rfl, b2⟩
        have HB2 := Lib.hid (H0.out.2.2.1.trans ((H1.out.trans (b2.mono H1.out.size)).mono H0.out.2.2.1.size))
        clear b2 d0
        go_wp2_with fail
        go_ret
        exact ⟨by rw [hZf.out]; rfl, HB2.out⟩
    · have hTj : T = j := by omega
      have hZt := Lib.hid (show Z = true from by
        rw [HF.out.2.2.1, HF.out.2.1, hTj]
        exact hS.out)
      have HB2 := Lib.hid (H0.out.2.2.1.trans (H1.out.mono H0.out.2.2.1.size))
      clear hS hlt hj2
      subst hTj
      go_wp2_with fail
      go_ret
      exact ⟨by rw [hZt.out]; rfl, HB2.out⟩
end Go.Proofs.Ytaminpfgkegibaa
/- The reference's Well: its regions that draw their order. Conditions: lengths. (BEGUN: Well itself is still to come.) -/
namespace Go.Proofs.Ytaminpfgkegibaa
set_option linter.unusedVariables false
set_option linter.unusedSimpArgs false
open Go.RowKit
set_option maxHeartbeats 1000000
set_option maxRecDepth 100000
end Go.Proofs.Ytaminpfgkegibaa
/- The reference's Well. Conditions: lengths. -/
namespace Go.Proofs.Ytaminpfgkegibaa
set_option linter.unusedVariables false
set_option linter.unusedSimpArgs false
open Go.RowKit Go.Maps
set_option maxHeartbeats 1000000
set_option maxRecDepth 100000
set_option maxHeartbeats 4000000
end Go.Proofs.Ytaminpfgkegibaa
