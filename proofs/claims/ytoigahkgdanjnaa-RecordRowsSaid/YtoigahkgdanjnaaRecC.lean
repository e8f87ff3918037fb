/- What rec.small and rec.open answer of a record's bytes. Conditions: lengths. -/
import Derived.Test.YtoigahkgdanjnaaRecB
namespace Go.Proofs.Ytoigahkgdanjnaa
set_option linter.unusedVariables false
set_option linter.unusedSimpArgs false
open Go.RowKit
set_option maxRecDepth 100000
set_option maxHeartbeats 400000
theorem small_c (n : Nat) (h : n ≤ 65535) (w : World) : Calls Try.prog 34 #[.int .u64 n] w fun e w' => e = .returned (.int .i64 n) ∧ w' = w := by
  have h1 : (0 : Int) ≤ (n : Int) := by omega
  have h2 : (n : Int) ≤ 65535 := by omega
  go_enter Try.func34, Try.ntmps34
  go_wp2_with fail
  go_ret
  exact ⟨rfl, rfl⟩
def NoB (cs : Array Value) : Prop := ∀ (i : Nat) (x : BitVec 8), cs[i]? ≠ some (b8 x)
theorem NoB.five (a b c d : Int) (A : Option Addr) (n m : Nat) : NoB #[.int .i64 a, .int .u64 b, .int .i64 c, .int .i64 d, .slice A n m] := by
  intro i x
  rcases i with _ | _ | _ | _ | _ | i <;> simp [b8]
theorem Rd.off {W : World} {r B : Nat} {E : TypeId} {cs : Array Value} {A : Option Addr} {bs : List (BitVec 8)} (h : Rd b8 W B A bs) (hk : Bk W r E cs) (hn : NoB cs) (u : Value) (i : Nat) : Rd b8 (W.setCell ⟨r, i, none⟩ u) B A bs := fun j hj => by
  obtain ⟨ad, e, hb, hc⟩ := h j hj
  refine ⟨ad, e, hb, ?_⟩
  have hne : (ad.add j).block ≠ r := by
    intro e2
    have h3 := hc
    unfold World.cell? at h3
    rw [e2, show W.heap[r]? = _ from hk] at h3
    simp only at h3
    split at h3
    · cases h3
    · exact hn _ _ h3
  rw [← hc]
  exact World.cell?_of_block (Below.heap_setCell _ _ _ _ hne)
theorem DecAt.off {W : World} {g r : Nat} {E : TypeId} {cs : Array Value} {bs : List (BitVec 8)} {err : Int} (h : DecAt W g bs err) (hk : Bk W r E cs) (hn : NoB cs) (hne : g ≠ r) (u : Value) (i : Nat) : DecAt (W.setCell ⟨r, i, none⟩ u) g bs err := by
  obtain ⟨A, c, h1, h2, h3, h4⟩ := h.ex
  have hs : (W.setCell ⟨r, i, none⟩ u).heap.size = W.heap.size := by simp [World.setCell]
  exact ⟨A, c, h1.far (p := ⟨r, i, none⟩) hne u, h2, by rw [hs]; exact h3.off hk hn u i, h4⟩
def zeroR : Array Value := #[.int .i64 0, .int .u64 0, .int .i64 0, .int .i64 0, .slice none 0 0]
/-- A reader in g, a record in r, the answer's record at the head. -/
structure OpS (w W : World) (g r : Nat) (bs : List (BitVec 8)) (cs : Array Value) : Prop where
  dec : DecAt W g bs 0
  rc : Bk W r 27 cs
  res : Bk W w.heap.size 27 zeroR
  bel : Below w.heap.size w W
  lo : w.heap.size < g
  hi : g < r
theorem OpS.only {w W W' : World} {g r : Nat} {bs bs' : List (BitVec 8)} {cs : Array Value} (p : OpS w W g r bs cs) (h : DecAt W' g bs' 0) (ho : Only W W' g) : OpS w W' g r bs' cs :=
  ⟨h, p.rc.only ho (by have := p.hi; omega), p.res.only ho (by have := p.lo; omega), p.bel.trans (ho.below (Nat.le_of_lt p.lo) p.dec.lt), p.lo, p.hi⟩
theorem OpS.set {w W : World} {g r : Nat} {bs : List (BitVec 8)} {cs : Array Value} (p : OpS w W g r bs cs) (hn : NoB cs) (i : Nat) (u : Value) : OpS w (W.setCell ⟨r, i, none⟩ u) g r bs (cs.setIfInBounds i u) :=
  ⟨p.dec.off p.rc hn (by have := p.hi; omega) u i, p.rc.set i u, p.res.far (p := ⟨r, i, none⟩) (by have := p.hi; have := p.lo; simp; omega) u, p.bel.setCell (p := ⟨r, i, none⟩) (by have := p.hi; have := p.lo; simp; omega) u, p.lo, p.hi⟩
theorem OpS.nat {w W : World} {g r n : Nat} {bs : List (BitVec 8)} {cs : Array Value} (p : OpS w W g r (uintL (BitVec.ofNat 64 n) ++ bs) cs) (hn : n < 2 ^ 64) (hl : bs.length ≤ 536870912) :
    Calls Try.prog 25 #[.pointer (some ⟨g, 0, none⟩)] W fun e W' => e = .returned (.int .u64 (n : Int)) ∧ OpS w W' g r bs cs :=
  (dec_len W g n bs p.dec hn hl).mono fun _ _ ⟨h1, h2, h3⟩ => ⟨h1, p.only h2 h3⟩
theorem OpS.uint {w W : World} {g r : Nat} {x : BitVec 64} {bs : List (BitVec 8)} {cs : Array Value} (p : OpS w W g r (uintL x ++ bs) cs) (hl : bs.length ≤ 536870912) :
    Calls Try.prog 25 #[.pointer (some ⟨g, 0, none⟩)] W fun e W' => e = .returned (.int .u64 (U64 x)) ∧ OpS w W' g r bs cs := by
  have hu : (uintL x).length ≤ 10 := uintF_len 9 _
  have h2 := dec_uint W g _ p.dec (by simp only [List.length_append]; omega)
  rw [dec_uint_back] at h2
  exact h2.mono fun _ _ ⟨h1, h2, h3⟩ => ⟨h1, p.only h2 h3⟩
theorem OpS.raw {w W : World} {g r : Nat} {xs : List (BitVec 8)} {cs : Array Value} (p : OpS w W g r (rawL xs) cs) (hl : xs.length ≤ 536870912) :
    Calls Try.prog 35 #[.pointer (some ⟨g, 0, none⟩)] W fun e W' => ∃ A c, e = .returned (.slice A xs.length c) ∧ Rd b8 W' W'.heap.size A xs ∧ OpS w W' g r [] cs ∧ ∀ a, A = some a → r < a.block := by
  have h := dec_raw W g xs [] (by rw [List.append_nil]; exact p.dec) (by rw [List.append_nil]; exact hl)
  refine h.mono ?_
  rintro e W' ⟨A, c, h1, h2, h3, h4, h5⟩
  exact ⟨A, c, h1, h2, p.only h3 h4, fun a e => Nat.lt_of_lt_of_le p.rc.lt (h5 a e)⟩
theorem OpS.fin {w W : World} {g r : Nat} {bs : List (BitVec 8)} {cs : Array Value} (p : OpS w W g r bs cs) {A : Option Addr} {d : List (BitVec 8)} {B : Nat} (hr : Rd b8 W B A d) (hB : B ≤ W.heap.size) (ha : ∀ a, A = some a → r < a.block) (v0 v1 v2 v3 v4 : Value) (W5 : World)
    (hW : W5 = ((((W.setCell ⟨w.heap.size, 0, none⟩ v0).setCell ⟨w.heap.size, 1, none⟩ v1).setCell ⟨w.heap.size, 2, none⟩ v2).setCell ⟨w.heap.size, 3, none⟩ v3).setCell ⟨w.heap.size, 4, none⟩ v4) :
    Bk W5 w.heap.size 27 #[v0, v1, v2, v3, v4] ∧ Rd b8 W5 W5.heap.size A d ∧ Below w.heap.size w W5 ∧ ∀ a, A = some a → w.heap.size ≤ a.block := by
  have ho : Only W W5 w.heap.size := by
    rw [hW]
    exact ((((Only.set W _ 0 v0).trans (Only.set _ _ 1 v1)).trans (Only.set _ _ 2 v2)).trans (Only.set _ _ 3 v3)).trans (Only.set _ _ 4 v4)
  have hlt : ∀ a, A = some a → w.heap.size < a.block := fun a e => by have := ha a e; have := p.hi; have := p.lo; omega
  refine ⟨?_, (hr.more hB).only ho fun a e => by have := hlt a e; omega, p.bel.trans (ho.below (Nat.le_refl _) p.res.lt), fun a e => Nat.le_of_lt (hlt a e)⟩
  rw [hW]
  exact ((((p.res.set 0 v0).set 1 v1).set 2 v2).set 3 v3).set 4 v4
def OpenP (k : Nat) (tx : BitVec 64) (sp no : Nat) (d : List (BitVec 8)) (w : World) (e : Ending) (w' : World) : Prop := ∃ A c, e = .returned (recV k tx sp no A d.length c) ∧ Rd b8 w' w'.heap.size A d ∧ Below w.heap.size w w' ∧ ∀ a, A = some a → w.heap.size ≤ a.block
theorem open_c (k : Nat) (tx : BitVec 64) (sp no : Nat) (A : Option Addr) (d : List (BitVec 8)) (c : Nat) (w : World) (h : ¬ badR k sp no) (hd : d.length ≤ 4096) (hc : (sealC (bodyL k tx sp no d)).length ≤ c) (hr : Rd b8 w w.heap.size A (sealC (bodyL k tx sp no d))) :
    Calls Try.prog 28 #[.slice A (sealC (bodyL k tx sp no d)).length c] w (OpenP k tx sp no d w) := by
  have hbl := bodyL_len k tx sp no d
  have hsl := sealC_len (bodyL k tx sp no d)
  have hrb : Rd b8 w w.heap.size A (bodyL k tx sp no d) := by
    have := hr.take (bodyL k tx sp no d).length
    unfold sealC at this
    rwa [List.take_left] at this
  obtain ⟨n, hn⟩ : ∃ n, n = (bodyL k tx sp no d).length := ⟨_, rfl⟩
  obtain ⟨m, hm⟩ : ∃ m, m = (sealC (bodyL k tx sp no d)).length := ⟨_, rfl⟩
  have hmn : m = n + 4 := by omega
  rw [← hm] at hc ⊢
  have HO := Lib.hid (of_c (bodyL k tx sp no d) A c (w.alloc (.cells zeroR 27)) ((hrb.alloc (Nat.le_refl _) _).more (by simp)) (by omega))
  rw [← hn] at HO
  unfold zeroR at HO
  have HK := Lib.hid (Bk.new w 27 zeroR)
  have HB := Lib.hid (Gw.alloc w (.cells zeroR 27))
  have q2 : (k : Int) ≤ 3 := by unfold badR at h; omega
  have q4 : (sp : Int) ≤ 1 := by unfold badR at h; omega
  have q6 : (no : Int) ≤ 65535 := by unfold badR at h; omega
  have HQ := Lib.hid (show k ≤ 3 ∧ sp ≤ 1 ∧ no ≤ 65535 ∧ (k ≠ 1 → sp = 0 ∧ no = 0) from by unfold badR at h; omega)
  have HD := Lib.hid hd
  have HL := Lib.hid (show (uintL (BitVec.ofNat 64 k)).length ≤ 10 ∧ (uintL tx).length ≤ 10 ∧ (uintL (BitVec.ofNat 64 sp)).length ≤ 10 ∧ (uintL (BitVec.ofNat 64 no)).length ≤ 10 ∧ (rawL d).length ≤ 10 + d.length from ⟨uintF_len 9 _, uintF_len 9 _, uintF_len 9 _, uintF_len 9 _, rawL_len d⟩)
  have hn1 : (n : Int) ≤ 10000 := by omega
  have hmc : (m : Int) ≤ (c : Int) := by omega
  clear hr hrb hbl hsl hn hm h hd
  subst hmn
  go_enter Try.func28, Try.ntmps28
  go_wp2_with fail
  refine Calls.mono HO.out ?_
  rintro e w1 ⟨g, rfl, hg1, hg2, hd1, b1⟩
  have P1 := Lib.hid (show OpS w (w1.alloc (.cells zeroR 27)) g w1.heap.size (bodyL k tx sp no d) zeroR from
    ⟨hd1.below (Gw.alloc w1 _), Bk.new w1 _ _, (HK.out.below b1 HK.out.lt).alloc _, (HB.out.trans (b1.mono HB.out.size)).trans ((Gw.alloc w1 _).mono (HB.out.trans (b1.mono HB.out.size)).size), by simp at hg1; omega, hg2⟩)
  clear hg1 hg2 hd1 b1 HO HK HB
  by_cases hk1 : k = 1
  · subst hk1
    have P1' := Lib.hid (show OpS w (w1.alloc (.cells zeroR 27)) g w1.heap.size (uintL (BitVec.ofNat 64 1) ++ (uintL tx ++ (uintL (BitVec.ofNat 64 sp) ++ (uintL (BitVec.ofNat 64 no) ++ rawL d)))) zeroR from by
      have := P1.out
      unfold bodyL at this
      rw [if_pos rfl] at this
      simpa only [List.append_assoc] using this)
    unfold zeroR at P1'
    clear P1
    have HU1 := Lib.hid (P1'.out.nat (n := 1) (by decide) (by have := HL.out; have := HD.out; simp only [List.length_append]; omega))
    clear P1'
    go_wp2_with fail
    refine Calls.mono HU1.out ?_
    rintro e w2 ⟨rfl, p2⟩
    have HP2 := Lib.hid (p2.set (NoB.five _ _ _ _ _ _ _) 0 (.int .i64 1))
    have f2 := p2.rc.free 0
    have c2 := p2.rc.cell 0
    have HS2 := Lib.hid (small_c 1 (by decide) w2)
    clear p2 HU1
    go_wp2_with fail
    refine Calls.mono HS2.out ?_
    rintro e w2' ⟨rfl, rfl⟩
    go_wp2_with fail
    have HU2 := Lib.hid (HP2.out.uint (by have := HL.out; have := HD.out; simp only [List.length_append]; omega))
    clear HS2 HP2 c2 f2
    refine Calls.mono HU2.out ?_
    rintro e w3 ⟨rfl, p3⟩
    have HP3 := Lib.hid (p3.set (NoB.five _ _ _ _ _ _ _) 1 (.int .u64 (U64 tx)))
    have f3 := p3.rc.free 1
    have c3 := p3.rc.cell 1
    have d3 := p3.rc.cell 0
    clear p3 HU2
    go_wp2_with fail
    have HU3 := Lib.hid (HP3.out.nat (by have := HQ.out; omega) (by have := HL.out; have := HD.out; simp only [List.length_append]; omega))
    clear HP3 c3 f3 d3
    refine Calls.mono HU3.out ?_
    rintro e w4 ⟨rfl, p4⟩
    have HP4 := Lib.hid (p4.set (NoB.five _ _ _ _ _ _ _) 2 (.int .i64 (sp : Int)))
    have f4 := p4.rc.free 2
    have c4 := p4.rc.cell 2
    have HS4 := Lib.hid (small_c sp (by have := HQ.out; omega) w4)
    clear p4 HU3
    go_wp2_with fail
    refine Calls.mono HS4.out ?_
    rintro e w4' ⟨rfl, rfl⟩
    go_wp2_with fail
    have HU4 := Lib.hid (HP4.out.nat (by have := HQ.out; omega) (by have := HL.out; have := HD.out; omega))
    clear HS4 HP4 c4 f4
    refine Calls.mono HU4.out ?_
    rintro e w5 ⟨rfl, p5⟩
    have HP5 := Lib.hid (p5.set (NoB.five _ _ _ _ _ _ _) 3 (.int .i64 (no : Int)))
    have f5 := p5.rc.free 3
    have c5 := p5.rc.cell 3
    have HS5 := Lib.hid (small_c no (by have := HQ.out; omega) w5)
    clear p5 HU4
    go_wp2_with fail
    refine Calls.mono HS5.out ?_
    rintro e w5' ⟨rfl, rfl⟩
    go_wp2_with fail
    have HU5 := Lib.hid (HP5.out.raw (by have := HD.out; omega))
    clear HS5 HP5 c5 f5
    obtain ⟨x, hx⟩ : ∃ x, x = d.length := ⟨_, rfl⟩
    have HX := Lib.hid hx
    rw [← hx] at HU5
    clear hx
    refine Calls.mono HU5.out ?_
    rintro e w6 ⟨A6, x6, rfl, hr6, p6, ha6⟩
    have HP6 := Lib.hid (p6.set (NoB.five _ _ _ _ _ _ _) 4 (.slice A6 x x6))
    have f6 := p6.rc.free 4
    have c6 := p6.rc.cell 4
    have HR6 := Lib.hid (hr6.off p6.rc (NoB.five _ _ _ _ _ _ _) (.slice A6 x x6) 4)
    have HA6 := Lib.hid ha6
    clear p6 HU5 hr6 ha6
    go_wp2_with fail
    have HE := Lib.hid (dec_err _ g [] 0 HP6.out.dec)
    clear c6 f6
    refine Calls.mono HE.out ?_
    rintro e w7 ⟨rfl, rfl⟩
    obtain ⟨e0, e1, e2, e3, e4⟩ := HP6.out.rc.five
    obtain ⟨r0, r1, r2, r3, r4⟩ := HP6.out.res.five
    have z0 := HP6.out.res.free 0
    have z1 := HP6.out.res.free 1
    have z2 := HP6.out.res.free 2
    have z3 := HP6.out.res.free 3
    have z4 := HP6.out.res.free 4
    clear HE
    go_wp2_with fail
    have HF := Lib.hid (HP6.out.fin HR6.out (by simp [World.setCell]) HA6.out (.int .i64 1) (.int .u64 (U64 tx)) (.int .i64 (sp : Int)) (.int .i64 (no : Int)) (.slice A6 x x6) _ rfl)
    obtain ⟨t0, t1, t2, t3, t4⟩ := HF.out.1.five
    refine bodyPost_ret (v := recV 1 tx sp no A6 x x6) (by unfold recV; simp [results, Try.results28, go_sem, t0, t1, t2, t3, t4]) rfl ?_
    exact ⟨A6, x6, by rw [HX.out]; rfl, HF.out.2.1, HF.out.2.2.1, HF.out.2.2.2⟩
  · obtain ⟨rfl, rfl⟩ := HQ.out.2.2.2 hk1
    have HK1 := Lib.hid hk1
    have P1' := Lib.hid (show OpS w (w1.alloc (.cells zeroR 27)) g w1.heap.size (uintL (BitVec.ofNat 64 k) ++ (uintL tx ++ rawL d)) zeroR from by
      have := P1.out
      unfold bodyL at this
      rw [if_neg hk1] at this
      simpa only [List.append_assoc] using this)
    unfold zeroR at P1'
    clear P1
    have HU1 := Lib.hid (P1'.out.nat (n := k) (by have := HQ.out; omega) (by have := HL.out; have := HD.out; (try simp only [List.length_append]); omega))
    clear P1'
    go_wp2_with fail
    refine Calls.mono HU1.out ?_
    rintro e w2 ⟨rfl, p2⟩
    have HP2 := Lib.hid (p2.set (NoB.five _ _ _ _ _ _ _) 0 (.int .i64 (k : Int)))
    have f2 := p2.rc.free 0
    have c2 := p2.rc.cell 0
    have HS2 := Lib.hid (small_c k (by have := HQ.out; omega) w2)
    clear p2 HU1
    go_wp2_with fail
    refine Calls.mono HS2.out ?_
    rintro e w2' ⟨rfl, rfl⟩
    go_wp2_with fail
    have HU2 := Lib.hid (HP2.out.uint (by have := HL.out; have := HD.out; (try simp only [List.length_append]); omega))
    clear HS2 HP2 c2 f2
    refine Calls.mono HU2.out ?_
    rintro e w3 ⟨rfl, p3⟩
    have HP3 := Lib.hid (p3.set (NoB.five _ _ _ _ _ _ _) 1 (.int .u64 (U64 tx)))
    have f3 := p3.rc.free 1
    have c3 := p3.rc.cell 1
    have d3 := p3.rc.cell 0
    clear p3 HU2
    go_wp2_with fail
    have HU5 := Lib.hid (HP3.out.raw (by have := HD.out; omega))
    clear HP3 c3 f3 d3
    obtain ⟨x, hx⟩ : ∃ x, x = d.length := ⟨_, rfl⟩
    have HX := Lib.hid hx
    rw [← hx] at HU5
    clear hx
    refine Calls.mono HU5.out ?_
    rintro e w6 ⟨A6, x6, rfl, hr6, p6, ha6⟩
    have HP6 := Lib.hid (p6.set (NoB.five _ _ _ _ _ _ _) 4 (.slice A6 x x6))
    have f6 := p6.rc.free 4
    have c6 := p6.rc.cell 4
    have HR6 := Lib.hid (hr6.off p6.rc (NoB.five _ _ _ _ _ _ _) (.slice A6 x x6) 4)
    have HA6 := Lib.hid ha6
    clear p6 HU5 hr6 ha6
    go_wp2_with fail
    have HE := Lib.hid (dec_err _ g [] 0 HP6.out.dec)
    clear c6 f6
    refine Calls.mono HE.out ?_
    rintro e w7 ⟨rfl, rfl⟩
    obtain ⟨e0, e1, e2, e3, e4⟩ := HP6.out.rc.five
    obtain ⟨r0, r1, r2, r3, r4⟩ := HP6.out.res.five
    have z0 := HP6.out.res.free 0
    have z1 := HP6.out.res.free 1
    have z2 := HP6.out.res.free 2
    have z3 := HP6.out.res.free 3
    have z4 := HP6.out.res.free 4
    clear HE
    go_wp2_with fail
    have HF := Lib.hid (HP6.out.fin HR6.out (by simp [World.setCell]) HA6.out (.int .i64 (k : Int)) (.int .u64 (U64 tx)) (.int .i64 0) (.int .i64 0) (.slice A6 x x6) _ rfl)
    obtain ⟨t0, t1, t2, t3, t4⟩ := HF.out.1.five
    refine bodyPost_ret (v := recV k tx 0 0 A6 x x6) (by unfold recV; simp [results, Try.results28, go_sem, t0, t1, t2, t3, t4]) rfl ?_
    exact ⟨A6, x6, by rw [HX.out]; rfl, HF.out.2.1, HF.out.2.2.1, HF.out.2.2.2⟩
end Go.Proofs.Ytoigahkgdanjnaa
