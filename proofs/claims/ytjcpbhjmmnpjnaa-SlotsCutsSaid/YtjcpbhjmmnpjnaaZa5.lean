/- Texts joined: LeN SupD SupE EqlB SupF SupM SupP Frame. -/
import Derived.Test.YtjcpbhjmmnpjnaaZa4
import Derived.Lib.SmallJoins
import Derived.Laws.EntriesVeiled
import Derived.Test.YtjcpbhjmmnpjnaaRows
import Derived.WalkKit
import Derived.ProofKit
import Derived.OpenShut
import Derived.ShutString
import Derived.ChangeOld
import Derived.Below
/- Bytes of a number, the lowest first, and that number. No conditions. -/
namespace Go.Proofs.Ytjcpbhjmmnpjnaa
set_option linter.unusedVariables false
set_option linter.unusedSimpArgs false
open Go.RowKit
theorem leN_lowN (v : BitVec 64) : ∀ n : Nat, n ≤ 8 → ∀ i, i < 64 → (leN (lowN v n)).getLsbD i = (v.getLsbD i && decide (i < 8 * n))
  | 0, _, i, _ => by simp [lowN, leN]
  | n + 1, hn, i, hi => by
    rw [lowN_snoc, leN_snoc, BitVec.getLsbD_or, leN_lowN v n (by omega) i hi, lowN_len, BitVec.getLsbD_shiftLeft]
    by_cases a : i < 8 * n
    · have b : i < 8 * (n + 1) := by omega
      simp [a, b]
    · by_cases b : i < 8 * (n + 1)
      · simp [hi, a, b, show i - 8 * n < 8 from by omega, show 8 * n + (i - 8 * n) = i from by omega, show i - 8 * n < 64 from by omega]
      · simp [hi, a, b, show ¬ i - 8 * n < 8 from by omega]
end Go.Proofs.Ytjcpbhjmmnpjnaa
/- What is read of a block's sector. No conditions but on the numbers. -/
namespace Go.Proofs.Ytjcpbhjmmnpjnaa
set_option linter.unusedVariables false
set_option linter.unusedSimpArgs false
open Go.RowKit
set_option maxRecDepth 100000
set_option maxHeartbeats 400000
theorem leN_low (v : BitVec 64) (n : Nat) (hn : n ≤ 8) (hv : v.toNat < 2 ^ (8 * n)) : leN (lowN v n) = v := by
  apply BitVec.eq_of_getLsbD_eq
  intro i hi
  rw [leN_lowN v n hn i hi]
  by_cases h : i < 8 * n
  · simp [h]
  · have : v.getLsbD i = false := by
      rw [BitVec.getLsbD]
      exact Nat.testBit_lt_two_pow (Nat.lt_of_lt_of_le hv (Nat.pow_le_pow_right (by decide) (by omega)))
    simp [h, this]
theorem headB_split (ep : BitVec 64) (s l n sp wd : Nat) (lg : BitVec 64) (k : Nat) (v : BitVec 64) (b : Nat) (h : (numsL ep s l n sp wd lg)[k]? = some (v, b)) : ∃ R, headB ep s l n sp wd lg 9 = headB ep s l n sp wd lg k ++ (lowN v b ++ R) := by
  obtain ⟨hk, e⟩ := List.getElem?_eq_some_iff.1 h
  refine ⟨((numsL ep s l n sp wd lg).drop (k + 1)).flatMap fun p => lowN p.1 p.2, ?_⟩
  unfold headB
  rw [show (numsL ep s l n sp wd lg).take 9 = numsL ep s l n sp wd lg from rfl]
  have h2 : numsL ep s l n sp wd lg = (numsL ep s l n sp wd lg).take k ++ (numsL ep s l n sp wd lg)[k] :: (numsL ep s l n sp wd lg).drop (k + 1) := by
    rw [← List.drop_eq_getElem_cons hk, List.take_append_drop]
  conv => lhs; rw [h2]
  rw [List.flatMap_append, List.flatMap_cons, e]
theorem get_num (ep : BitVec 64) (s l n sp wd : Nat) (lg : BitVec 64) (k : Nat) (v : BitVec 64) (b o : Nat) (h : (numsL ep s l n sp wd lg)[k]? = some (v, b)) (ho : (headB ep s l n sp wd lg k).length = o) (hb1 : 1 ≤ b) (hb8 : b ≤ 8) (hv : v.toNat < 2 ^ (8 * b)) : getB (encSB ep s l n sp wd lg) (o : Int) (b : Int) = v := by
  obtain ⟨R, hR⟩ := headB_split ep s l n sp wd lg k v b h
  have hE : encSB ep s l n sp wd lg = headB ep s l n sp wd lg k ++ (lowN v b ++ (R ++ (List.replicate (s - 4 - 44) 0#8 ++ tailL (addC 0 (secB ep s l n sp wd lg))))) := by
    unfold encSB sealC
    conv => lhs; lhs; unfold secB
    rw [hR]
    simp only [List.append_assoc]
  unfold getB
  have hin : inB (encSB ep s l n sp wd lg).length (o : Int) (b : Int) = true := by
    unfold inB
    rw [decide_eq_true_eq, hE]
    simp only [List.length_append, lowN_len, ho]
    omega
  rw [if_pos hin]
  unfold seg
  rw [hE, show ((o : Int)).toNat = o from by omega, show ((b : Int)).toNat = b from by omega, List.drop_left' ho, List.take_left' (lowN_len v b)]
  exact leN_low v b hb8 hv
end Go.Proofs.Ytjcpbhjmmnpjnaa
/- What the closures of sup.Decode answer. Conditions: lengths. -/
namespace Go.Proofs.Ytjcpbhjmmnpjnaa
set_option linter.unusedVariables false
set_option linter.unusedSimpArgs false
open Go.RowKit
set_option maxRecDepth 100000
set_option maxHeartbeats 400000
/-- A call that answers v, leaves the place x in block pa, and all else. -/
def NextP (v : Value) (pa : Nat) (x : Int) (w : World) (e : Ending) (w' : World) : Prop := e = .returned v ∧ Bk w' pa 3 #[.int .i64 x] ∧ Only w w' pa
theorem next_c (bs : List (BitVec 8)) (A : Option Addr) (c ps pa : Nat) (at_ k : Int) (w : World) (hs : Bk w ps 22 #[.slice A bs.length c]) (ha : Bk w pa 3 #[.int .i64 at_]) (hr : Rd b8 w w.heap.size A bs) (hl : bs.length ≤ 2147483648) (h1 : 0 ≤ at_) (h2 : at_ ≤ 100000) (h3 : 0 ≤ k) (h4 : k ≤ 8) :
    Calls Try.prog 46 #[.int .i64 k, .pointer (some ⟨ps, 0, none⟩), .pointer (some ⟨pa, 0, none⟩)] w (NextP (.int .u64 (U64 (getB bs at_ k))) pa (at_ + k) w) := by
  have HG := Lib.hid (get_c bs A c at_ k w w.heap.size hr hl)
  have c0 := hs.cell 0
  have d0 := ha.cell 0
  have f0 := ha.free 0
  have HA := Lib.hid ha
  obtain ⟨n, hn⟩ : ∃ n, n = bs.length := ⟨_, rfl⟩
  rw [← hn] at c0 HG
  clear hs ha hr hl hn
  go_enter Try.func46, Try.ntmps46
  go_wp2_with fail
  refine Calls.mono HG.out.go ?_
  rintro e w1 ⟨rfl, mm, rfl⟩
  have HF := Lib.hid (show NextP (.int .u64 (U64 (getB bs at_ k))) pa (at_ + k) w (.returned (.int .u64 (U64 (getB bs at_ k)))) ((w.drewN mm).setCell ⟨pa, 0, none⟩ (.int .i64 (at_ + k))) from ⟨rfl, (HA.out.drewN mm).set 0 _, ⟨rfl, rfl, rfl, by simp [World.setCell], fun j _ hne => Below.heap_setCell _ _ _ _ hne⟩⟩)
  go_wp2_with fail
  go_ret
  exact HF.out
theorem small6_c (bs : List (BitVec 8)) (A : Option Addr) (c ps pa pf : Nat) (at_ : Int) (x : Nat) (w : World) (hs : Bk w ps 22 #[.slice A bs.length c]) (ha : Bk w pa 3 #[.int .i64 at_]) (hf : Bk w pf 94 #[.func (.func 46) #[] #[.pointer (some ⟨ps, 0, none⟩), .pointer (some ⟨pa, 0, none⟩)]]) (hr : Rd b8 w w.heap.size A bs) (hl : bs.length ≤ 2147483648) (h1 : 0 ≤ at_) (h2 : at_ ≤ 100000) (hx : U64 (getB bs at_ 4) = (x : Int)) (hxl : x ≤ 4294967296) :
    Calls Try.prog 48 #[.pointer (some ⟨pf, 0, none⟩)] w (NextP (.int .i64 (x : Int)) pa (at_ + 4) w) := by
  have HN := Lib.hid (next_c bs A c ps pa at_ 4 w hs ha hr hl h1 h2 (by decide) (by decide))
  rw [hx] at HN
  have p1 : (0 : Int) ≤ (x : Int) := by omega
  have p2 : (x : Int) ≤ 4294967296 := by omega
  have c0 := hf.cell 0
  clear hs ha hf hr hl hx
  go_enter Try.func48, Try.ntmps48
  go_wp2_with fail
  refine Calls.mono HN.out ?_
  rintro e w1 ⟨rfl, hb, ho⟩
  have HF := Lib.hid (show NextP (.int .i64 (x : Int)) pa (at_ + 4) w (.returned (.int .i64 (x : Int))) w1 from ⟨rfl, hb, ho⟩)
  clear hb ho
  go_wp2_with fail
  go_ret
  exact HF.out
end Go.Proofs.Ytjcpbhjmmnpjnaa
/- What bytes.Equal answers. No conditions. -/
namespace Go.Proofs.Ytjcpbhjmmnpjnaa
set_option linter.unusedVariables false
set_option linter.unusedSimpArgs false
open Go.RowKit
set_option maxRecDepth 100000
set_option maxHeartbeats 400000
theorem equal_c (A A2 : Option Addr) (c c2 : Nat) (xs ys : List (BitVec 8)) (w : World) (h1 : Rd b8 w w.heap.size A xs) (h2 : Rd b8 w w.heap.size A2 ys) : Calls Try.prog 49 #[.slice A xs.length c, .slice A2 ys.length c2] w fun e w' => e = .returned (.bool (decide (xs = ys))) ∧ w' = w := by
  have k1 := str_conv xs A c _ w h1
  have k2 := str_conv ys A2 c2 _ w h2
  have HE := Lib.hid (show ((strB xs).toList == (strB ys).toList) = decide (xs = ys) from by
    by_cases h : xs = ys
    · subst h; simp
    · have hne : ¬ (strB xs).toList = (strB ys).toList := fun e => h (strB_inj (by
        rw [ByteArray.toList_eq, ByteArray.toList_eq] at e
        exact ByteArray.ext (Array.toList_inj.1 e)))
      simp [h, hne])
  clear h1 h2
  go_enter Try.func49, Try.ntmps49
  go_wp2_with fail
  go_ret
  exact ⟨by simpa using HE.out, rfl⟩
end Go.Proofs.Ytjcpbhjmmnpjnaa
/- What sup.Decode answers of a block's sector. No conditions but on the numbers. -/
namespace Go.Proofs.Ytjcpbhjmmnpjnaa
set_option linter.unusedVariables false
set_option linter.unusedSimpArgs false
open Go.RowKit
set_option maxRecDepth 100000
set_option maxHeartbeats 800000
def zero7 : Array Value := #[.int .u64 0, .int .i64 0, .int .i64 0, .int .i64 0, .int .i64 0, .int .i64 0, .int .u64 0]
/-- The blocks of a walk through Decode. -/
structure DecS (w W : World) (ps z r pa pf : Nat) (A : Option Addr) (c : Nat) (bs : List (BitVec 8)) (at_ : Int) (cs : Array Value) : Prop where
  s : Bk W ps 22 #[.slice A bs.length c]
  rd : Rd b8 W w.heap.size A bs
  res : Bk W z 32 zero7
  bk : Bk W r 32 cs
  pos : Bk W pa 3 #[.int .i64 at_]
  fn : Bk W pf 94 #[.func (.func 46) #[] #[.pointer (some ⟨ps, 0, none⟩), .pointer (some ⟨pa, 0, none⟩)]]
  bel : Below w.heap.size w W
  o : w.heap.size ≤ ps ∧ ps < z ∧ z < r ∧ r < pa ∧ pa < pf
theorem DecS.only {w W W' : World} {ps z r pa pf : Nat} {A : Option Addr} {c : Nat} {bs : List (BitVec 8)} {at_ x : Int} {cs : Array Value} (h : DecS w W ps z r pa pf A c bs at_ cs) (hp : Bk W' pa 3 #[.int .i64 x]) (ho : Only W W' pa) : DecS w W' ps z r pa pf A c bs x cs := by
  obtain ⟨o1, o2, o3, o4, o5⟩ := h.o
  have hb := ho.below (B := w.heap.size) (by omega) h.pos.lt
  exact ⟨h.s.onl ho (by omega), h.rd.below hb, h.res.onl ho (by omega), h.bk.onl ho (by omega), hp, h.fn.onl ho (by omega), h.bel.trans hb, h.o⟩
theorem DecS.set {w W : World} {ps z r pa pf : Nat} {A : Option Addr} {c : Nat} {bs : List (BitVec 8)} {at_ : Int} {cs : Array Value} (h : DecS w W ps z r pa pf A c bs at_ cs) (i : Nat) (u : Value) : DecS w (W.setCell ⟨r, i, none⟩ u) ps z r pa pf A c bs at_ (cs.setIfInBounds i u) := by
  obtain ⟨o1, o2, o3, o4, o5⟩ := h.o
  exact ⟨h.s.far (p := ⟨r, i, none⟩) (by simp; omega) u, h.rd.setCell (p := ⟨r, i, none⟩) (by simp; omega) u, h.res.far (p := ⟨r, i, none⟩) (by simp; omega) u, h.bk.set i u, h.pos.far (p := ⟨r, i, none⟩) (by simp; omega) u, h.fn.far (p := ⟨r, i, none⟩) (by simp; omega) u, h.bel.setCell (p := ⟨r, i, none⟩) (by simp; omega) u, h.o⟩
theorem DecS.below {w W W' : World} {ps z r pa pf : Nat} {A : Option Addr} {c : Nat} {bs : List (BitVec 8)} {at_ : Int} {cs : Array Value} (h : DecS w W ps z r pa pf A c bs at_ cs) (hb : Below W.heap.size W W') : DecS w W' ps z r pa pf A c bs at_ cs :=
  ⟨h.s.below hb h.s.lt, h.rd.below (hb.mono h.bel.size), h.res.below hb h.res.lt, h.bk.below hb h.bk.lt, h.pos.below hb h.pos.lt, h.fn.below hb h.fn.lt, h.bel.trans (hb.mono h.bel.size), h.o⟩
theorem DecS.next {w W : World} {ps z r pa pf : Nat} {A : Option Addr} {c : Nat} {bs : List (BitVec 8)} {at_ : Int} {cs : Array Value} (h : DecS w W ps z r pa pf A c bs at_ cs) (k y : Int) (v : BitVec 64) (hv : getB bs at_ k = v) (hy : y = at_ + k) (hl : bs.length ≤ 2147483648) (h1 : 0 ≤ at_) (h2 : at_ ≤ 100000) (h3 : 0 ≤ k) (h4 : k ≤ 8) :
    Calls Try.prog 46 #[.int .i64 k, .pointer (some ⟨ps, 0, none⟩), .pointer (some ⟨pa, 0, none⟩)] W fun e W' => e = .returned (.int .u64 (U64 v)) ∧ DecS w W' ps z r pa pf A c bs y cs := by
  subst hv hy
  exact (next_c bs A c ps pa at_ k W h.s h.pos (h.rd.more h.bel.size) hl h1 h2 h3 h4).mono fun _ _ ⟨e1, e2, e3⟩ => ⟨e1, h.only e2 e3⟩
theorem DecS.small {w W : World} {ps z r pa pf : Nat} {A : Option Addr} {c : Nat} {bs : List (BitVec 8)} {at_ : Int} {cs : Array Value} (h : DecS w W ps z r pa pf A c bs at_ cs) (x : Nat) (y : Int) (hx : U64 (getB bs at_ 4) = (x : Int)) (hy : y = at_ + 4) (hl : bs.length ≤ 2147483648) (h1 : 0 ≤ at_) (h2 : at_ ≤ 100000) (hxl : x ≤ 4294967296) :
    Calls Try.prog 48 #[.pointer (some ⟨pf, 0, none⟩)] W fun e W' => e = .returned (.int .i64 (x : Int)) ∧ DecS w W' ps z r pa pf A c bs y cs := by
  subst hy
  exact (small6_c bs A c ps pa pf at_ x W h.s h.pos h.fn (h.rd.more h.bel.size) hl h1 h2 hx hxl).mono fun _ _ ⟨e1, e2, e3⟩ => ⟨e1, h.only e2 e3⟩
theorem get4 (ep : BitVec 64) (s l n sp wd : Nat) (lg : BitVec 64) (k x o : Nat) (h : (numsL ep s l n sp wd lg)[k]? = some (BitVec.ofNat 64 x, 4)) (ho : (headB ep s l n sp wd lg k).length = o) (hx : x < 4294967296) : U64 (getB (encSB ep s l n sp wd lg) (o : Int) 4) = (x : Int) := by
  have h2 := get_num ep s l n sp wd lg k (BitVec.ofNat 64 x) 4 o h ho (by decide) (by decide) (by rw [BitVec.toNat_ofNat]; omega)
  rw [show ((4 : Nat) : Int) = 4 from rfl] at h2
  rw [h2, u64nat x (by omega)]
theorem dec6_ok (ep : BitVec 64) (s l n sp wd : Nat) (lg : BitVec 64) (A : Option Addr) (c : Nat) (w : World) (h : goodS s l n sp wd) (hc : (encSB ep s l n sp wd lg).length ≤ c) (hr : Rd b8 w w.heap.size A (encSB ep s l n sp wd lg)) :
    Calls Try.prog 27 #[.slice A (encSB ep s l n sp wd lg).length c] w (RetP (.tuple #[blkV ep s l n sp wd lg, .int .i64 0]) w) := by
  obtain ⟨hg, hsp, hwd⟩ := h
  have og := okG_out hg
  have b2 := og.s2
  have b3 := og.l2
  have b4 := og.n2
  have hln := secB_len ep s l n sp wd lg (by have := og.s1; omega)
  obtain ⟨E, hE⟩ : ∃ E, E = encSB ep s l n sp wd lg := ⟨_, rfl⟩
  have hEl : E.length = (secB ep s l n sp wd lg).length + 4 := by rw [hE]; unfold encSB sealC; rw [List.length_append]; rfl
  have HEnc := Lib.hid (fun W => enc6_ok ep s l n sp wd lg W ⟨hg, hsp, hwd⟩)
  have HG := Lib.hid (show getB E 8 8 = ep ∧ U64 (getB E 16 4) = (s : Int) ∧ U64 (getB E 20 4) = (l : Int) ∧ U64 (getB E 24 4) = (n : Int) ∧ U64 (getB E 28 4) = (sp : Int) ∧ U64 (getB E 32 4) = (wd : Int) ∧ getB E 36 8 = lg from by
    rw [hE]
    refine ⟨get_num ep s l n sp wd lg 2 ep 8 8 rfl (by simp [headB, numsL, lowN]) (by decide) (by decide) ep.isLt, get4 ep s l n sp wd lg 3 s 16 rfl (by simp [headB, numsL, lowN]) (by omega), get4 ep s l n sp wd lg 4 l 20 rfl (by simp [headB, numsL, lowN]) (by omega), get4 ep s l n sp wd lg 5 n 24 rfl (by simp [headB, numsL, lowN]) (by omega), get4 ep s l n sp wd lg 6 sp 28 rfl (by simp [headB, numsL, lowN]) (by omega), get4 ep s l n sp wd lg 7 wd 32 rfl (by simp [headB, numsL, lowN]) (by omega), get_num ep s l n sp wd lg 8 lg 8 36 rfl (by simp [headB, numsL, lowN]) (by decide) (by decide) lg.isLt⟩)
  rw [← hE] at hc hr ⊢
  have HRt := Lib.hid (fun W (q : Rd b8 W W.heap.size A E) => right_seal (secB ep s l n sp wd lg) A c E.length W (by rw [hE] at q; exact q) hEl hc (by rw [hln]; omega))
  have HL := Lib.hid (show E.length ≤ 2000 from by rw [hEl, hln]; omega)
  obtain ⟨N, hN⟩ : ∃ N, N = E.length := ⟨_, rfl⟩
  rw [← hN] at HRt ⊢
  have HN := Lib.hid hN
  have HE := Lib.hid hE
  have HR := Lib.hid hr
  have HX := Lib.hid (show s ≤ 1024 ∧ l ≤ 1024 ∧ n ≤ 8192 ∧ sp ≤ 1 ∧ wd ≤ 8192 from by omega)
  have HW1 := Lib.hid (show Bk ((w.alloc (.cells #[.slice A N c] 22)).alloc (.cells zero7 32)) w.heap.size 22 #[.slice A N c] ∧ Bk ((w.alloc (.cells #[.slice A N c] 22)).alloc (.cells zero7 32)) (w.heap.size + 1) 32 zero7 ∧ Below w.heap.size w ((w.alloc (.cells #[.slice A N c] 22)).alloc (.cells zero7 32)) from by
    refine ⟨(Bk.new w _ _).alloc _, ?_, (Gw.alloc w _).trans ((Gw.alloc _ _).mono (by simp))⟩
    have q := Bk.new (w.alloc (.cells #[.slice A N c] 22)) 32 zero7
    simpa using q)
  unfold zero7 at HW1
  clear hg hsp hwd og b2 b3 b4 hln hE hEl hc hr hN
  go_enter Try.func27, Try.ntmps27
  go_wp2_with fail
  refine Calls.mono (HRt.out _ ((HR.out.below HW1.out.2.2).more HW1.out.2.2.size)) ?_
  rintro e w1 ⟨rfl, b1⟩
  have HW2 := Lib.hid (And.intro (HW1.out.1.below b1 HW1.out.1.lt) (And.intro (HW1.out.2.1.below b1 HW1.out.2.1.lt) (HW1.out.2.2.trans (b1.mono HW1.out.2.2.size))))
  clear b1 HRt HW1
  have D0 := Lib.hid (show DecS w (((w1.alloc (.cells zero7 32)).alloc (.cells #[.int .i64 0] 3)).alloc (.cells #[.func (.func 46) #[] #[.pointer (some ⟨w.heap.size, 0, none⟩), .pointer (some ⟨w1.heap.size + 1, 0, none⟩)]] 94)) w.heap.size (w.heap.size + 1) w1.heap.size (w1.heap.size + 1) (w1.heap.size + 1 + 1) A c E 0 zero7 from by
    have q0 := HW2.out.2.1.lt
    refine ⟨by rw [← HN.out]; exact ((HW2.out.1.alloc _).alloc _).alloc _, ?_, ((HW2.out.2.1.alloc _).alloc _).alloc _, ((Bk.new w1 _ _).alloc _).alloc _, ?_, ?_, ?_, ⟨Nat.le_refl _, by omega, by omega, by omega, by omega⟩⟩
    · exact (((HR.out.below HW2.out.2.2).alloc HW2.out.2.2.size _).alloc (by simp; omega) _).alloc (by simp; omega) _
    · have q := (Bk.new (w1.alloc (.cells zero7 32)) 3 #[.int .i64 0]).alloc (.cells #[.func (.func 46) #[] #[.pointer (some ⟨w.heap.size, 0, none⟩), .pointer (some ⟨w1.heap.size + 1, 0, none⟩)]] 94)
      simpa using q
    · have q := Bk.new ((w1.alloc (.cells zero7 32)).alloc (.cells #[.int .i64 0] 3)) 94 #[.func (.func 46) #[] #[.pointer (some ⟨w.heap.size, 0, none⟩), .pointer (some ⟨w1.heap.size + 1, 0, none⟩)]]
      simpa using q
    · exact ((HW2.out.2.2.trans ((Gw.alloc w1 _).mono HW2.out.2.2.size)).trans ((Gw.alloc _ _).mono (by simp; omega))).trans ((Gw.alloc _ _).mono (by simp; omega)))
  have HLb := Lib.hid (show E.length ≤ 2147483648 from by have := HL.out; omega)
  clear HW2
  unfold zero7 at D0
  go_wp2_with fail
  refine Calls.mono (D0.out.next 8 8 _ rfl (by decide) HLb.out (by decide) (by decide) (by decide) (by decide)) ?_
  rintro e w2 ⟨rfl, d2⟩
  have D2 := Lib.hid d2
  have f2 := d2.fn.cell 0
  clear d2 D0
  go_wp2_with fail
  refine Calls.mono (D2.out.next 8 16 ep HG.out.1 (by decide) HLb.out (by decide) (by decide) (by decide) (by decide)) ?_
  rintro e w3 ⟨rfl, d3⟩
  have D3 := Lib.hid (d3.set 0 (.int .u64 (U64 ep)))
  have f3 := d3.bk.cell 0
  have z3 := d3.bk.free 0
  have l3 := d3.bk.lt
  clear d3 D2 f2
  go_wp2_with fail
  refine Calls.mono (D3.out.small s 20 HG.out.2.1 (by decide) HLb.out (by decide) (by decide) (by have := HX.out; omega)) ?_
  rintro e w4 ⟨rfl, d4⟩
  have D4 := Lib.hid d4
  clear d4 D3 f3 z3 l3
  go_wp2_with fail
  refine Calls.mono (D4.out.small l 24 HG.out.2.2.1 (by decide) HLb.out (by decide) (by decide) (by have := HX.out; omega)) ?_
  rintro e w5 ⟨rfl, d5⟩
  have D5 := Lib.hid d5
  clear d5 D4
  go_wp2_with fail
  refine Calls.mono (D5.out.small n 28 HG.out.2.2.2.1 (by decide) HLb.out (by decide) (by decide) (by have := HX.out; omega)) ?_
  rintro e w6 ⟨rfl, d6⟩
  have D6 := Lib.hid (((d6.set 1 (.int .i64 (s : Int))).set 2 (.int .i64 (l : Int))).set 3 (.int .i64 (n : Int)))
  have f1 := d6.bk.cell 1
  have f2 := d6.bk.cell 2
  have f3 := d6.bk.cell 3
  have z1 := d6.bk.free 1
  have z2 := d6.bk.free 2
  have z3 := d6.bk.free 3
  have l6 := d6.bk.lt
  clear d6 D5
  go_wp2_with fail
  refine Calls.mono (D6.out.small sp 32 HG.out.2.2.2.2.1 (by decide) HLb.out (by decide) (by decide) (by have := HX.out; omega)) ?_
  rintro e w7 ⟨rfl, d7⟩
  have D7 := Lib.hid d7
  clear d7 D6 f1 f2 f3 z1 z2 z3 l6
  go_wp2_with fail
  refine Calls.mono (D7.out.small wd 36 HG.out.2.2.2.2.2.1 (by decide) HLb.out (by decide) (by decide) (by have := HX.out; omega)) ?_
  rintro e w8 ⟨rfl, d8⟩
  have D8 := Lib.hid ((d8.set 4 (.int .i64 (sp : Int))).set 5 (.int .i64 (wd : Int)))
  have f4 := d8.bk.cell 4
  have f5 := d8.bk.cell 5
  have z4 := d8.bk.free 4
  have z5 := d8.bk.free 5
  have l8 := d8.bk.lt
  have g8 := D8.out.fn.cell 0
  clear d8 D7
  go_wp2_with fail
  refine Calls.mono (D8.out.next 8 44 lg HG.out.2.2.2.2.2.2 (by decide) HLb.out (by decide) (by decide) (by decide) (by decide)) ?_
  rintro e w9 ⟨rfl, d9⟩
  have D9 := Lib.hid (d9.set 6 (.int .u64 (U64 lg)))
  have f6 := d9.bk.cell 6
  have z6 := d9.bk.free 6
  have l9 := d9.bk.lt
  obtain ⟨e0, e1, e2, e3, e4, e5, e6⟩ := D9.out.bk.seven
  clear d9 D8 f4 f5 z4 z5 l8 g8
  go_wp2_with fail
  have HEn := Lib.hid (HEnc.out (w9.setCell ⟨w1.heap.size, 6, none⟩ (.int .u64 (U64 lg))))
  rw [← HE.out] at HEn
  unfold blkV at HEn
  refine Calls.mono HEn.out ?_
  rintro e w10 ⟨A9, c9, rfl, hc9, hr9, b10, ha9⟩
  have D10 := Lib.hid (D9.out.below b10)
  have HQ := Lib.hid (equal_c A9 A c9 c E E w10 hr9 (D10.out.rd.more D10.out.bel.size))
  have hdd : decide (E = E) = true := by simp
  rw [hdd, ← HN.out] at HQ
  rw [← HN.out]
  have g10 := D10.out.s.cell 0
  rw [← HN.out] at g10
  clear hdd hc9 hr9 b10 ha9 HEn HEnc D9 f6 z6 l9 e0 e1 e2 e3 e4 e5 e6
  go_wp2_with fail
  refine Calls.mono HQ.out ?_
  rintro e w11 ⟨rfl, rfl⟩
  obtain ⟨e0, e1, e2, e3, e4, e5, e6⟩ := D10.out.bk.seven
  obtain ⟨r0, r1, r2, r3, r4, r5, r6⟩ := D10.out.res.seven
  have z0 := D10.out.res.free 0
  have z1 := D10.out.res.free 1
  have z2 := D10.out.res.free 2
  have z3 := D10.out.res.free 3
  have z4 := D10.out.res.free 4
  have z5 := D10.out.res.free 5
  have z6 := D10.out.res.free 6
  have ll := D10.out.res.lt
  have HR7 := Lib.hid (((((((D10.out.res.set 0 (.int .u64 (U64 ep))).set 1 (.int .i64 (s : Int))).set 2 (.int .i64 (l : Int))).set 3 (.int .i64 (n : Int))).set 4 (.int .i64 (sp : Int))).set 5 (.int .i64 (wd : Int))).set 6 (.int .u64 (U64 lg)))
  have HB7 := Lib.hid (((((((D10.out.bel.setCell (p := ⟨w.heap.size + 1, 0, none⟩) (by simp) (.int .u64 (U64 ep))).setCell (p := ⟨w.heap.size + 1, 1, none⟩) (by simp) (.int .i64 (s : Int))).setCell (p := ⟨w.heap.size + 1, 2, none⟩) (by simp) (.int .i64 (l : Int))).setCell (p := ⟨w.heap.size + 1, 3, none⟩) (by simp) (.int .i64 (n : Int))).setCell (p := ⟨w.heap.size + 1, 4, none⟩) (by simp) (.int .i64 (sp : Int))).setCell (p := ⟨w.heap.size + 1, 5, none⟩) (by simp) (.int .i64 (wd : Int))).setCell (p := ⟨w.heap.size + 1, 6, none⟩) (by simp) (.int .u64 (U64 lg)))
  clear HQ g10
  go_wp2_with fail
  obtain ⟨t0, t1, t2, t3, t4, t5, t6⟩ := HR7.out.seven
  refine bodyPost_ret (v := .tuple #[blkV ep s l n sp wd lg, .int .i64 0]) (by unfold blkV; simp [results, Try.results27, go_sem, t0, t1, t2, t3, t4, t5, t6]) rfl ?_
  exact ⟨rfl, HB7.out⟩
end Go.Proofs.Ytjcpbhjmmnpjnaa
/- What sup.Decode answers of any bytes at most 1100. No conditions but on the numbers. -/
namespace Go.Proofs.Ytjcpbhjmmnpjnaa
set_option linter.unusedVariables false
set_option linter.unusedSimpArgs false
open Go.RowKit
set_option maxRecDepth 100000
set_option maxHeartbeats 2000000
/-- What both Encodes answer: an error, and bytes. -/
def EncD (er : Int) (bs : List (BitVec 8)) (w : World) (e : Ending) (w' : World) : Prop := ∃ A c, e = .returned (.tuple #[.slice A bs.length c, .int .i64 er]) ∧ bs.length ≤ c ∧ Rd b8 w' w'.heap.size A bs ∧ Below w.heap.size w w'
def decR : Bool → Value → Value
  | true, v => .tuple #[v, .int .i64 0]
  | false, _ => .tuple #[blkV 0#64 0 0 0 0 0 0#64, .int .i64 2]
theorem dec6_wrong (E : List (BitVec 8)) (A : Option Addr) (c : Nat) (w : World) (hR : ∀ W, Rd b8 W W.heap.size A E → Calls Try.prog 45 #[.slice A E.length c] W (RetP (.bool false) W)) (hr : Rd b8 w w.heap.size A E) :
    Calls Try.prog 27 #[.slice A E.length c] w (RetP (.tuple #[blkV 0#64 0 0 0 0 0 0#64, .int .i64 2]) w) := by
  have hz : U64 0#64 = 0 := by decide +kernel
  unfold blkV
  rw [hz]
  clear hz
  have HRt := Lib.hid hR
  have HR := Lib.hid hr
  clear hR hr
  obtain ⟨N, hN⟩ : ∃ N, N = E.length := ⟨_, rfl⟩
  rw [← hN] at HRt ⊢
  clear hN
  have HZ := Lib.hid (show Bk ((w.alloc (.cells #[.slice A N c] 22)).alloc (.cells zero7 32)) (w.heap.size + 1) 32 zero7 ∧ Below w.heap.size w ((w.alloc (.cells #[.slice A N c] 22)).alloc (.cells zero7 32)) from by
    refine ⟨?_, (Gw.alloc w _).trans ((Gw.alloc _ _).mono (by simp))⟩
    have q := Bk.new (w.alloc (.cells #[.slice A N c] 22)) 32 zero7
    simpa using q)
  unfold zero7 at HZ
  go_enter Try.func27, Try.ntmps27
  go_wp2_with fail
  refine Calls.mono (HRt.out _ ((HR.out.below HZ.out.2).more HZ.out.2.size)) ?_
  rintro e w1 ⟨rfl, b1⟩
  have HZ1 := Lib.hid (HZ.out.1.below b1 HZ.out.1.lt)
  have HB1 := Lib.hid (HZ.out.2.trans (b1.mono HZ.out.2.size))
  obtain ⟨r0, r1, r2, r3, r4, r5, r6⟩ := HZ1.out.seven
  have z0 := HZ1.out.free 0
  have z1 := HZ1.out.free 1
  have z2 := HZ1.out.free 2
  have z3 := HZ1.out.free 3
  have z4 := HZ1.out.free 4
  have z5 := HZ1.out.free 5
  have z6 := HZ1.out.free 6
  have ll := HZ1.out.lt
  have HR7 := Lib.hid (((((((HZ1.out.set 0 (.int .u64 0)).set 1 (.int .i64 0)).set 2 (.int .i64 0)).set 3 (.int .i64 0)).set 4 (.int .i64 0)).set 5 (.int .i64 0)).set 6 (.int .u64 0))
  have HB7 := Lib.hid (((((((HB1.out.setCell (p := ⟨w.heap.size + 1, 0, none⟩) (by simp) (.int .u64 0)).setCell (p := ⟨w.heap.size + 1, 1, none⟩) (by simp) (.int .i64 0)).setCell (p := ⟨w.heap.size + 1, 2, none⟩) (by simp) (.int .i64 0)).setCell (p := ⟨w.heap.size + 1, 3, none⟩) (by simp) (.int .i64 0)).setCell (p := ⟨w.heap.size + 1, 4, none⟩) (by simp) (.int .i64 0)).setCell (p := ⟨w.heap.size + 1, 5, none⟩) (by simp) (.int .i64 0)).setCell (p := ⟨w.heap.size + 1, 6, none⟩) (by simp) (.int .u64 0))
  clear b1 HZ HR HRt
  go_wp2_with fail
  obtain ⟨t0, t1, t2, t3, t4, t5, t6⟩ := HR7.out.seven
  refine bodyPost_ret (v := .tuple #[.agg #[.int .u64 0, .int .i64 0, .int .i64 0, .int .i64 0, .int .i64 0, .int .i64 0, .int .u64 0], .int .i64 2]) (by simp [results, Try.results27, go_sem, t0, t1, t2, t3, t4, t5, t6]) rfl ?_
  exact ⟨rfl, HB7.out⟩
theorem dec6_any (E : List (BitVec 8)) (A : Option Addr) (c : Nat) (w : World) (hc : E.length ≤ c) (hl : E.length ≤ 2000) (hr : Rd b8 w w.heap.size A E) (hR : ∀ W, Rd b8 W W.heap.size A E → Calls Try.prog 45 #[.slice A E.length c] W (RetP (.bool true) W)) (ep : BitVec 64) (s l n sp wd : Nat) (lg : BitVec 64)
    (hG : getB E 8 8 = ep ∧ U64 (getB E 16 4) = (s : Int) ∧ U64 (getB E 20 4) = (l : Int) ∧ U64 (getB E 24 4) = (n : Int) ∧ U64 (getB E 28 4) = (sp : Int) ∧ U64 (getB E 32 4) = (wd : Int) ∧ getB E 36 8 = lg) (hX : s ≤ 4294967296 ∧ l ≤ 4294967296 ∧ n ≤ 4294967296 ∧ sp ≤ 4294967296 ∧ wd ≤ 4294967296)
    (er : Int) (xs : List (BitVec 8)) (hE : ∀ W, Calls Try.prog 37 #[blkV ep s l n sp wd lg] W (EncD er xs W)) (bb : Bool) (hw : (er = 1 ∧ bb = false) ∨ (er = 0 ∧ bb = decide (xs = E))) :
    Calls Try.prog 27 #[.slice A E.length c] w (RetP (decR bb (blkV ep s l n sp wd lg)) w) := by
  have HEnc := Lib.hid hE
  have HG := Lib.hid hG
  have HRt := Lib.hid hR
  have HL := Lib.hid hl
  have HX := Lib.hid hX
  have HWW := Lib.hid hw
  obtain ⟨N, hN⟩ : ∃ N, N = E.length := ⟨_, rfl⟩
  rw [← hN] at HRt ⊢
  have HN := Lib.hid hN
  have HR := Lib.hid hr
  have HW1 := Lib.hid (show Bk ((w.alloc (.cells #[.slice A N c] 22)).alloc (.cells zero7 32)) w.heap.size 22 #[.slice A N c] ∧ Bk ((w.alloc (.cells #[.slice A N c] 22)).alloc (.cells zero7 32)) (w.heap.size + 1) 32 zero7 ∧ Below w.heap.size w ((w.alloc (.cells #[.slice A N c] 22)).alloc (.cells zero7 32)) from by
    refine ⟨(Bk.new w _ _).alloc _, ?_, (Gw.alloc w _).trans ((Gw.alloc _ _).mono (by simp))⟩
    have q := Bk.new (w.alloc (.cells #[.slice A N c] 22)) 32 zero7
    simpa using q)
  unfold zero7 at HW1
  clear hG hX hR hE hw hl hc hr hN
  go_enter Try.func27, Try.ntmps27
  go_wp2_with fail
  refine Calls.mono (HRt.out _ ((HR.out.below HW1.out.2.2).more HW1.out.2.2.size)) ?_
  rintro e w1 ⟨rfl, b1⟩
  have HW2 := Lib.hid (And.intro (HW1.out.1.below b1 HW1.out.1.lt) (And.intro (HW1.out.2.1.below b1 HW1.out.2.1.lt) (HW1.out.2.2.trans (b1.mono HW1.out.2.2.size))))
  clear b1 HRt HW1
  have D0 := Lib.hid (show DecS w (((w1.alloc (.cells zero7 32)).alloc (.cells #[.int .i64 0] 3)).alloc (.cells #[.func (.func 46) #[] #[.pointer (some ⟨w.heap.size, 0, none⟩), .pointer (some ⟨w1.heap.size + 1, 0, none⟩)]] 94)) w.heap.size (w.heap.size + 1) w1.heap.size (w1.heap.size + 1) (w1.heap.size + 1 + 1) A c E 0 zero7 from by
    have q0 := HW2.out.2.1.lt
    refine ⟨by rw [← HN.out]; exact ((HW2.out.1.alloc _).alloc _).alloc _, ?_, ((HW2.out.2.1.alloc _).alloc _).alloc _, ((Bk.new w1 _ _).alloc _).alloc _, ?_, ?_, ?_, ⟨Nat.le_refl _, by omega, by omega, by omega, by omega⟩⟩
    · exact (((HR.out.below HW2.out.2.2).alloc HW2.out.2.2.size _).alloc (by simp; omega) _).alloc (by simp; omega) _
    · have q := (Bk.new (w1.alloc (.cells zero7 32)) 3 #[.int .i64 0]).alloc (.cells #[.func (.func 46) #[] #[.pointer (some ⟨w.heap.size, 0, none⟩), .pointer (some ⟨w1.heap.size + 1, 0, none⟩)]] 94)
      simpa using q
    · have q := Bk.new ((w1.alloc (.cells zero7 32)).alloc (.cells #[.int .i64 0] 3)) 94 #[.func (.func 46) #[] #[.pointer (some ⟨w.heap.size, 0, none⟩), .pointer (some ⟨w1.heap.size + 1, 0, none⟩)]]
      simpa using q
    · exact ((HW2.out.2.2.trans ((Gw.alloc w1 _).mono HW2.out.2.2.size)).trans ((Gw.alloc _ _).mono (by simp; omega))).trans ((Gw.alloc _ _).mono (by simp; omega)))
  have HLb := Lib.hid (show E.length ≤ 2147483648 from by have := HL.out; omega)
  clear HW2
  unfold zero7 at D0
  go_wp2_with fail
  refine Calls.mono (D0.out.next 8 8 _ rfl (by decide) HLb.out (by decide) (by decide) (by decide) (by decide)) ?_
  rintro e w2 ⟨rfl, d2⟩
  have D2 := Lib.hid d2
  have f2 := d2.fn.cell 0
  clear d2 D0
  go_wp2_with fail
  refine Calls.mono (D2.out.next 8 16 ep HG.out.1 (by decide) HLb.out (by decide) (by decide) (by decide) (by decide)) ?_
  rintro e w3 ⟨rfl, d3⟩
  have D3 := Lib.hid (d3.set 0 (.int .u64 (U64 ep)))
  have f3 := d3.bk.cell 0
  have z3 := d3.bk.free 0
  have l3 := d3.bk.lt
  clear d3 D2 f2
  go_wp2_with fail
  refine Calls.mono (D3.out.small s 20 HG.out.2.1 (by decide) HLb.out (by decide) (by decide) (by have := HX.out; omega)) ?_
  rintro e w4 ⟨rfl, d4⟩
  have D4 := Lib.hid d4
  clear d4 D3 f3 z3 l3
  go_wp2_with fail
  refine Calls.mono (D4.out.small l 24 HG.out.2.2.1 (by decide) HLb.out (by decide) (by decide) (by have := HX.out; omega)) ?_
  rintro e w5 ⟨rfl, d5⟩
  have D5 := Lib.hid d5
  clear d5 D4
  go_wp2_with fail
  refine Calls.mono (D5.out.small n 28 HG.out.2.2.2.1 (by decide) HLb.out (by decide) (by decide) (by have := HX.out; omega)) ?_
  rintro e w6 ⟨rfl, d6⟩
  have D6 := Lib.hid (((d6.set 1 (.int .i64 (s : Int))).set 2 (.int .i64 (l : Int))).set 3 (.int .i64 (n : Int)))
  have f1 := d6.bk.cell 1
  have f2 := d6.bk.cell 2
  have f3 := d6.bk.cell 3
  have z1 := d6.bk.free 1
  have z2 := d6.bk.free 2
  have z3 := d6.bk.free 3
  have l6 := d6.bk.lt
  clear d6 D5
  go_wp2_with fail
  refine Calls.mono (D6.out.small sp 32 HG.out.2.2.2.2.1 (by decide) HLb.out (by decide) (by decide) (by have := HX.out; omega)) ?_
  rintro e w7 ⟨rfl, d7⟩
  have D7 := Lib.hid d7
  clear d7 D6 f1 f2 f3 z1 z2 z3 l6
  go_wp2_with fail
  refine Calls.mono (D7.out.small wd 36 HG.out.2.2.2.2.2.1 (by decide) HLb.out (by decide) (by decide) (by have := HX.out; omega)) ?_
  rintro e w8 ⟨rfl, d8⟩
  have D8 := Lib.hid ((d8.set 4 (.int .i64 (sp : Int))).set 5 (.int .i64 (wd : Int)))
  have f4 := d8.bk.cell 4
  have f5 := d8.bk.cell 5
  have z4 := d8.bk.free 4
  have z5 := d8.bk.free 5
  have l8 := d8.bk.lt
  have g8 := D8.out.fn.cell 0
  clear d8 D7
  go_wp2_with fail
  refine Calls.mono (D8.out.next 8 44 lg HG.out.2.2.2.2.2.2 (by decide) HLb.out (by decide) (by decide) (by decide) (by decide)) ?_
  rintro e w9 ⟨rfl, d9⟩
  have D9 := Lib.hid (d9.set 6 (.int .u64 (U64 lg)))
  have f6 := d9.bk.cell 6
  have z6 := d9.bk.free 6
  have l9 := d9.bk.lt
  obtain ⟨e0, e1, e2, e3, e4, e5, e6⟩ := D9.out.bk.seven
  clear d9 D8 f4 f5 z4 z5 l8 g8
  go_wp2_with fail
  have HEn := Lib.hid (HEnc.out (w9.setCell ⟨w1.heap.size, 6, none⟩ (.int .u64 (U64 lg))))
  unfold blkV at HEn
  refine Calls.mono HEn.out ?_
  rintro e w10 ⟨A9, c9, rfl, hc9, hr9, b10⟩
  have D10 := Lib.hid (D9.out.below b10)
  have HQ := Lib.hid (equal_c A9 A c9 c xs E w10 hr9 (D10.out.rd.more D10.out.bel.size))
  have g10 := D10.out.s.cell 0
  rw [← HN.out] at g10
  obtain ⟨M, hM⟩ : ∃ M, M = xs.length := ⟨_, rfl⟩
  rw [← HN.out, ← hM] at HQ
  rw [← hM]
  clear hM hc9 hr9 b10 HEn HEnc D9 f6 z6 l9 e0 e1 e2 e3 e4 e5 e6
  rcases HWW.out with ⟨rfl, rfl⟩ | ⟨rfl, hbb⟩
  · clear HQ
    obtain ⟨e0, e1, e2, e3, e4, e5, e6⟩ := D10.out.bk.seven
    obtain ⟨r0, r1, r2, r3, r4, r5, r6⟩ := D10.out.res.seven
    have z0 := D10.out.res.free 0
    have z1 := D10.out.res.free 1
    have z2 := D10.out.res.free 2
    have z3 := D10.out.res.free 3
    have z4 := D10.out.res.free 4
    have z5 := D10.out.res.free 5
    have z6 := D10.out.res.free 6
    have ll := D10.out.res.lt
    have HR7 := Lib.hid (((((((D10.out.res.set 0 (.int .u64 0)).set 1 (.int .i64 0)).set 2 (.int .i64 0)).set 3 (.int .i64 0)).set 4 (.int .i64 0)).set 5 (.int .i64 0)).set 6 (.int .u64 0))
    have HB7 := Lib.hid (((((((D10.out.bel.setCell (p := ⟨w.heap.size + 1, 0, none⟩) (by simp) (.int .u64 0)).setCell (p := ⟨w.heap.size + 1, 1, none⟩) (by simp) (.int .i64 0)).setCell (p := ⟨w.heap.size + 1, 2, none⟩) (by simp) (.int .i64 0)).setCell (p := ⟨w.heap.size + 1, 3, none⟩) (by simp) (.int .i64 0)).setCell (p := ⟨w.heap.size + 1, 4, none⟩) (by simp) (.int .i64 0)).setCell (p := ⟨w.heap.size + 1, 5, none⟩) (by simp) (.int .i64 0)).setCell (p := ⟨w.heap.size + 1, 6, none⟩) (by simp) (.int .u64 0))
    clear g10
    go_wp2_with fail
    obtain ⟨t0, t1, t2, t3, t4, t5, t6⟩ := HR7.out.seven
    have hz : U64 0#64 = 0 := by decide +kernel
    refine bodyPost_ret (v := .tuple #[blkV 0#64 0 0 0 0 0 0#64, .int .i64 2]) (by unfold blkV; rw [hz]; simp [results, Try.results27, go_sem, t0, t1, t2, t3, t4, t5, t6]) rfl ?_
    exact ⟨rfl, HB7.out⟩
  · rw [← hbb] at HQ
    clear hbb HWW
    cases bb
    · go_wp2_with fail
      refine Calls.mono HQ.out ?_
      rintro e w11 ⟨rfl, rfl⟩
      clear HQ
      obtain ⟨e0, e1, e2, e3, e4, e5, e6⟩ := D10.out.bk.seven
      obtain ⟨r0, r1, r2, r3, r4, r5, r6⟩ := D10.out.res.seven
      have z0 := D10.out.res.free 0
      have z1 := D10.out.res.free 1
      have z2 := D10.out.res.free 2
      have z3 := D10.out.res.free 3
      have z4 := D10.out.res.free 4
      have z5 := D10.out.res.free 5
      have z6 := D10.out.res.free 6
      have ll := D10.out.res.lt
      have HR7 := Lib.hid (((((((D10.out.res.set 0 (.int .u64 0)).set 1 (.int .i64 0)).set 2 (.int .i64 0)).set 3 (.int .i64 0)).set 4 (.int .i64 0)).set 5 (.int .i64 0)).set 6 (.int .u64 0))
      have HB7 := Lib.hid (((((((D10.out.bel.setCell (p := ⟨w.heap.size + 1, 0, none⟩) (by simp) (.int .u64 0)).setCell (p := ⟨w.heap.size + 1, 1, none⟩) (by simp) (.int .i64 0)).setCell (p := ⟨w.heap.size + 1, 2, none⟩) (by simp) (.int .i64 0)).setCell (p := ⟨w.heap.size + 1, 3, none⟩) (by simp) (.int .i64 0)).setCell (p := ⟨w.heap.size + 1, 4, none⟩) (by simp) (.int .i64 0)).setCell (p := ⟨w.heap.size + 1, 5, none⟩) (by simp) (.int .i64 0)).setCell (p := ⟨w.heap.size + 1, 6, none⟩) (by simp) (.int .u64 0))
      clear g10
      go_wp2_with fail
      obtain ⟨t0, t1, t2, t3, t4, t5, t6⟩ := HR7.out.seven
      have hz : U64 0#64 = 0 := by decide +kernel
      refine bodyPost_ret (v := .tuple #[blkV 0#64 0 0 0 0 0 0#64, .int .i64 2]) (by unfold blkV; rw [hz]; simp [results, Try.results27, go_sem, t0, t1, t2, t3, t4, t5, t6]) rfl ?_
      exact ⟨rfl, HB7.out⟩
    · go_wp2_with fail
      refine Calls.mono HQ.out ?_
      rintro e w11 ⟨rfl, rfl⟩
      obtain ⟨e0, e1, e2, e3, e4, e5, e6⟩ := D10.out.bk.seven
      obtain ⟨r0, r1, r2, r3, r4, r5, r6⟩ := D10.out.res.seven
      have z0 := D10.out.res.free 0
      have z1 := D10.out.res.free 1
      have z2 := D10.out.res.free 2
      have z3 := D10.out.res.free 3
      have z4 := D10.out.res.free 4
      have z5 := D10.out.res.free 5
      have z6 := D10.out.res.free 6
      have ll := D10.out.res.lt
      have HR7 := Lib.hid (((((((D10.out.res.set 0 (.int .u64 (U64 ep))).set 1 (.int .i64 (s : Int))).set 2 (.int .i64 (l : Int))).set 3 (.int .i64 (n : Int))).set 4 (.int .i64 (sp : Int))).set 5 (.int .i64 (wd : Int))).set 6 (.int .u64 (U64 lg)))
      have HB7 := Lib.hid (((((((D10.out.bel.setCell (p := ⟨w.heap.size + 1, 0, none⟩) (by simp) (.int .u64 (U64 ep))).setCell (p := ⟨w.heap.size + 1, 1, none⟩) (by simp) (.int .i64 (s : Int))).setCell (p := ⟨w.heap.size + 1, 2, none⟩) (by simp) (.int .i64 (l : Int))).setCell (p := ⟨w.heap.size + 1, 3, none⟩) (by simp) (.int .i64 (n : Int))).setCell (p := ⟨w.heap.size + 1, 4, none⟩) (by simp) (.int .i64 (sp : Int))).setCell (p := ⟨w.heap.size + 1, 5, none⟩) (by simp) (.int .i64 (wd : Int))).setCell (p := ⟨w.heap.size + 1, 6, none⟩) (by simp) (.int .u64 (U64 lg)))
      clear g10
      go_wp2_with fail
      obtain ⟨t0, t1, t2, t3, t4, t5, t6⟩ := HR7.out.seven
      refine bodyPost_ret (v := .tuple #[blkV ep s l n sp wd lg, .int .i64 0]) (by unfold blkV; simp [results, Try.results27, go_sem, t0, t1, t2, t3, t4, t5, t6]) rfl ?_
      exact ⟨rfl, HB7.out⟩
end Go.Proofs.Ytjcpbhjmmnpjnaa
/- What both Encodes answer of any numbers. No conditions. -/
namespace Go.Proofs.Ytjcpbhjmmnpjnaa
set_option linter.unusedVariables false
set_option linter.unusedSimpArgs false
open Go.RowKit
set_option maxRecDepth 100000
set_option maxHeartbeats 2000000
theorem encD_both (ep : BitVec 64) (s l n sp wd : Nat) (lg : BitVec 64) : ∃ er xs, (∀ W, Calls Try.prog 37 #[blkV ep s l n sp wd lg] W (EncD er xs W)) ∧ (∀ W, Calls Try.prog 40 #[blkV ep s l n sp wd lg] W (EncD er xs W)) ∧
    ((er = 1 ∧ xs = []) ∨ (er = 0 ∧ xs = encSB ep s l n sp wd lg ∧ 64 ≤ s ∧ s ≤ 1024)) := by
  by_cases hb : badS s l n sp wd
  · exact ⟨1, [], fun W => (enc6_bad ep s l n sp wd lg W hb).mono fun _ _ h => ⟨none, 0, h.1, Nat.le_refl _, Rd.nil, h.2⟩, fun W => (renc6_bad ep s l n sp wd lg W hb).mono fun _ _ h => ⟨none, 0, h.1, Nat.le_refl _, Rd.nil, h.2⟩, .inl ⟨rfl, rfl⟩⟩
  · have hg : okG s l n = true := by
      cases hg : okG s l n with
      | true => rfl
      | false => exact absurd (.inl hg) hb
    have og := okG_out hg
    have h1 := og.s1
    have h2 := og.s2
    have h4 : ¬ ((sp : Int) < 0 ∨ (1 : Int) < sp ∨ (wd : Int) < 0 ∨ (n : Int) < wd) := fun e => hb (.inr e)
    have gd : goodS s l n sp wd := ⟨hg, by omega, by omega⟩
    exact ⟨0, encSB ep s l n sp wd lg, fun W => (enc6_ok ep s l n sp wd lg W gd).mono fun _ _ ⟨A, c, q1, q2, q3, q4, _⟩ => ⟨A, c, q1, q2, q3, q4⟩, fun W => (renc6_ok ep s l n sp wd lg W gd).mono fun _ _ ⟨A, c, q1, q2, q3, q4, _⟩ => ⟨A, c, q1, q2, q3, q4⟩, .inr ⟨rfl, rfl, by omega, by omega⟩⟩
end Go.Proofs.Ytjcpbhjmmnpjnaa
/- How an argument of a law is opened: numbers by their bounds, bytes as a list. No conditions. -/
namespace Go.Proofs.Ytjcpbhjmmnpjnaa
set_option linter.unusedVariables false
set_option linter.unusedSimpArgs false
open Go.ChangeShapes Go.WideShapes Go.ChangeAt Go.RowKit
/-- A call that answers v; what was there ahead of it is as it was. -/
def TruP (v : Value) (w : World) (e : Ending) (w' : World) : Prop := e = .returned v ∧ Below w.heap.size w w'
theorem own : ownKnob Try.prog.godebug = none := by kernel_rfl
theorem laidOut : laidOutB Try.prog = true := by kernel_rfl
theorem cell_lt {w : World} {a : Addr} {v : Value} (h : w.cell? a = some v) : a.block < w.heap.size := by
  rcases Nat.lt_or_ge a.block w.heap.size with hl | hl
  · exact hl
  · unfold World.cell? at h; rw [Array.getElem?_eq_none hl] at h; cases h
theorem wf64 {n : Int} (h : (Lit.int .i64 n).wf = true) : -9223372036854775808 ≤ n ∧ n ≤ 9223372036854775807 := by
  simpa [Lit.wf, IntKind.min, IntKind.max, IntKind.signed, IntKind.bits] using h
theorem wfu64 {n : Int} (h : (Lit.int .u64 n).wf = true) : n = U64 (BitVec.ofInt 64 n) := by
  have : 0 ≤ n ∧ n ≤ 18446744073709551615 := by simpa [Lit.wf, IntKind.min, IntKind.max, IntKind.signed, IntKind.bits] using h
  exact U64_of this.1 (by omega)
theorem wfu32 {n : Int} (h : (Lit.int .u32 n).wf = true) : n = U32 (BitVec.ofInt 32 n) := by
  have : 0 ≤ n ∧ n ≤ 4294967295 := by simpa [Lit.wf, IntKind.min, IntKind.max, IntKind.signed, IntKind.bits] using h
  exact U32_of this.1 (by omega)
theorem wfu8 {n : Int} (h : (Lit.int .u8 n).wf = true) : n = U8 (BitVec.ofInt 8 n) := by
  have : 0 ≤ n ∧ n ≤ 255 := by simpa [Lit.wf, IntKind.min, IntKind.max, IntKind.signed, IntKind.bits] using h
  exact U8_of this.1 (by omega)
theorem wfi64 {n : Int} (h : (Lit.int .i64 n).wf = true) : n = I64 (BitVec.ofInt 64 n) := I64_of (wf64 h).1 (wf64 h).2
theorem open_bytes {H : Type} {enc : TypeId × Value → H} {P : Program} {W : World} {base : Nat} {sp : Nat → Bool} {hd : Bool} {r : Reach} {b0 : Nat} {t e : TypeId} {v : Value} {d : DataW H} {p : List MemPlace}
    (ht : P.underlying t = some (.slice e)) (he : P.underlying e = some (.int .u8)) (hc : P.cellsOf e = 1)
    (hv : Value.okWide P W r b0 t v) (h : DataW.Trod enc P W base sp hd t v d p) :
    ∃ (A : Option Addr) (bs : List (BitVec 8)) (c : Nat), v = .slice A bs.length c ∧ bs.length ≤ c ∧ c ≤ maxLen ∧ Rd b8 W W.heap.size A bs := by
  obtain ⟨a0, len, cap, rfl⟩ := okWide_slice ht hv
  obtain ⟨fuel, hf⟩ := h
  rcases open_ints ht he hc hf with ⟨hcs, _⟩ | ⟨x, l, c, zs, hcs, _, hl, hm, hz, _, hcell, hwz⟩
  · simp [Value.cells] at hcs
    obtain ⟨rfl, rfl, rfl⟩ := hcs
    exact ⟨none, [], 0, rfl, Nat.le_refl _, by simp [maxLen], Rd.nil⟩
  · simp [Value.cells] at hcs
    obtain ⟨rfl, rfl, rfl⟩ := hcs
    have hlen : len ≤ zs.length := by rw [hz]; split <;> omega
    refine ⟨some x, (zs.take len).map (BitVec.ofInt 8), cap, by simp; omega, by simp; omega, hm, fun j hj => ?_⟩
    have hj' : j < len := by simp at hj; omega
    have hc1 := hcell j (by omega)
    have hb := cell_lt hc1
    rw [add_block] at hb
    refine ⟨x, rfl, hb, ?_⟩
    rw [hc1]
    have hw := hwz (zs.getD j 0) (by rw [List.getD_eq_getElem?_getD, List.getElem?_eq_getElem (by omega)]; exact List.getElem_mem _)
    rw [wfu8 hw]
    have e : zs.getD j 0 = zs[j]'(by omega) := by rw [List.getD_eq_getElem?_getD, List.getElem?_eq_getElem (by omega)]; rfl
    rw [e]
    simp [b8]
end Go.Proofs.Ytjcpbhjmmnpjnaa
