/- Texts joined: NmD NmZ NmW SpD SpE SpG SpH SpI. -/
import Derived.Test.YtkkjnahjmomjgaaWa1
/- What table.Fix answers. No conditions. -/
namespace Go.Proofs.Ytkkjnahjmomjgaa
set_option linter.unusedVariables false
set_option linter.unusedSimpArgs false
open Go.RowKit Go.Maps
set_option maxRecDepth 100000
set_option maxHeartbeats 800000
theorem strB_size (bs : Nm) : (strB bs).size = bs.length := by
  show (strL bs).toArray.size = _
  simp [strL]
theorem strB_cells (bs : Nm) : Lib.byteCells (strB bs).data.toList = bs.map b8 := by
  show Lib.byteCells (strL bs).toArray.toList = _
  unfold Lib.byteCells strL
  simp only [List.map_map]
  rfl
theorem str_eq (x y : Nm) : ((strB x).toList == (strB y).toList) = decide (x = y) := by
  by_cases h : x = y
  · subst h; simp
  · have hne : ¬ (strB x).toList = (strB y).toList := fun e => h (strB_inj (by
      rw [ByteArray.toList_eq, ByteArray.toList_eq] at e
      exact ByteArray.ext (Array.toList_inj.1 e)))
    simp [h, hne]
/-- A text as a name. -/
def padNm (bs : Nm) : Nm := bs ++ List.replicate (32 - bs.length) 0#8
theorem padNm_w {bs : Nm} (h : bs.length ≤ 32) : nW (padNm bs) := by
  unfold nW padNm
  rw [List.length_append, List.length_replicate]
  omega
theorem nC_list (k : Nm) : (nC k).toList = k.map b8 := by unfold nC; simp
theorem pad_cells {bs : Nm} (h : bs.length ≤ 32) : (Lib.byteCells (strB bs).data.toList ++ (nC zN).toList.drop (strB bs).size).toArray = nC (padNm bs) := by
  rw [strB_cells, strB_size, nC_list]
  unfold nC padNm zN
  rw [List.map_append, List.map_replicate, List.map_replicate, List.drop_replicate]
def fixR (bs : Nm) (e1 e2 : Bool) : Value := match e1, e2 with
  | false, true => .tuple #[nV (padNm bs), .int .i64 0]
  | _, _ => .tuple #[nV zN, .int .i64 4]
theorem fix_res {tmps : Array Value} {W : World} {g : Nat} {E : TypeId} {k : Nm} {y : Value} (hk : nW k) (hb : Bk W g E (nC k)) (h2 : tmps.getD 2 undef = .pointer (some ⟨g, 0, none⟩)) (h3 : tmps.getD 3 undef = y) :
    (results Try.f67 tmps).run Try.prog W = .ok (.tuple #[nV k, y]) W := by
  have hl := run_loadVar_row (P := Try.prog) W g E 120 (nC k) (0, 0) _ hb Try.underlying120 rfl (by rw [nC_size hk]; kernel_rfl)
  have h2' : tmps[2]?.getD undef = .pointer (some ⟨g, 0, none⟩) := by simpa using h2
  have h3' : tmps[3]?.getD undef = y := by simpa using h3
  unfold nV
  simp [results, Try.results67, h2', h3', asAddr, hl]
theorem fix_c (bs : Nm) (w : World) (h : bs.length ≤ 32) (e1 e2 : Bool) (h1 : e1 = decide (padNm bs = zN)) (h2 : e2 = decide (cutN (padNm bs) = bs)) : Calls Try.prog 67 #[.string (strB bs)] w (RetP (fixR bs e1 e2) w) := by
  obtain ⟨s, hs⟩ : ∃ s, s = strB bs := ⟨_, rfl⟩
  have hz : s.size = bs.length := by rw [hs]; exact strB_size bs
  have hpc := pad_cells h
  have hpw := padNm_w h
  have HST := Lib.hid (fun W => string_c W (padNm bs) hpw)
  have hse := str_eq (cutN (padNm bs)) bs
  rw [← h2] at hse
  rw [← hs] at hpc hse ⊢
  have q1 : decide ((32 : Int) < (s.size : Int)) = false := by simp; omega
  obtain ⟨za, hza⟩ : ∃ za, za = nC zN := ⟨_, rfl⟩
  obtain ⟨pa, hpa⟩ : ∃ pa, pa = nC (padNm bs) := ⟨_, rfl⟩
  have hzero := zeroN
  have heq := eqN (padNm bs) zN hpw zN_w
  rw [← hza] at hzero hpc heq
  rw [← hpa] at hpc heq
  rw [← h1] at heq
  unfold nV at HST
  rw [← hpa] at HST
  have HZ := Lib.hid hza
  have HP := Lib.hid hpa
  have HPW := Lib.hid hpw
  have HZS := Lib.hid (show za.size = 32 from by rw [hza]; exact nC_size zN_w)
  have HZO := Lib.hid (show za.all (·.oneCell') = true from by rw [hza]; exact nC_one zN)
  have HPS := Lib.hid (show pa.size = 32 from by rw [hpa]; exact nC_size hpw)
  have HPO := Lib.hid (show pa.all (·.oneCell') = true from by rw [hpa]; exact nC_one _)
  have HSZ := Lib.hid (show s.size ≤ 32 from by omega)
  have HPC := Lib.hid hpc
  obtain ⟨cs, hcs⟩ : ∃ cs, cs = strB (cutN (padNm bs)) := ⟨_, rfl⟩
  rw [← hcs] at hse HST
  have HB := Lib.hid (show Bk ((w.alloc (.cells za 120)).alloc (.cells za 120)) w.heap.size 120 za ∧ Bk ((w.alloc (.cells za 120)).alloc (.cells za 120)) (w.heap.size + 1) 120 za ∧ Below w.heap.size w ((w.alloc (.cells za 120)).alloc (.cells za 120)) from by
    refine ⟨(Bk.new w _ _).alloc _, ?_, (Gw.alloc w _).trans ((Gw.alloc _ _).mono (by simp))⟩
    have q := Bk.new (w.alloc (.cells za 120)) 120 za
    simpa using q)
  obtain ⟨n1, hn1⟩ : ∃ n, n = w.heap.size + 1 := ⟨_, rfl⟩
  have HN := Lib.hid (show w.heap.size ≤ n1 ∧ w.heap.size ≠ n1 from by omega)
  clear h hs hz hza hpa hpc hpw h1 h2 hcs
  cases e1
  · cases e2
    · go_enter Try.func67, Try.ntmps67
      go_wp2_with (first
        | (refine wp_copyN rfl _ _ rfl (w.heap.size + 1) rfl s rfl 120 za HB.out.2.1 HZS.out HSZ.out ?_; intro w3 k3 b3 o3; rw [HPC.out] at k3; have HK3 := Lib.hid k3; have HB3 := Lib.hid (HB.out.2.2.trans (b3 w.heap.size (by omega))); have HR3 := Lib.hid (show Bk w3 w.heap.size 120 za from (o3 _ (by omega)).trans HB.out.1); clear k3 b3 o3)
        | (refine wp_loadG rfl _ rfl (w.heap.size + 1) rfl 120 pa HK3.out HPS.out ?_))
      refine Calls.mono (HST.out _) ?_
      rintro e w4 ⟨rfl, b4⟩
      have HR4 := Lib.hid (HR3.out.below b4 HR3.out.lt)
      have HB4 := Lib.hid (HB3.out.trans (b4.mono HB3.out.size))
      clear b4
      go_wp2_with (refine wp_storeN rfl _ _ rfl w.heap.size za rfl rfl 120 za HR4.out HZS.out HZS.out HZO.out ?_; intro w5 k5 b5 o5)
      refine bodyPost_ret (v := .tuple #[nV zN, .int .i64 4]) (fix_res zN_w (by rw [← HZ.out]; exact k5) rfl rfl) rfl ⟨rfl, ?_⟩
      exact HB4.out.trans (b5 _ (Nat.le_refl _))
    · go_enter Try.func67, Try.ntmps67
      go_wp2_with (first
        | (refine wp_copyN rfl _ _ rfl (w.heap.size + 1) rfl s rfl 120 za HB.out.2.1 HZS.out HSZ.out ?_; intro w3 k3 b3 o3; rw [HPC.out] at k3; have HK3 := Lib.hid k3; have HB3 := Lib.hid (HB.out.2.2.trans (b3 w.heap.size (by omega))); have HR3 := Lib.hid (show Bk w3 w.heap.size 120 za from (o3 _ (by omega)).trans HB.out.1); clear k3 b3 o3)
        | (refine wp_loadG rfl _ rfl (w.heap.size + 1) rfl 120 pa HK3.out HPS.out ?_))
      refine Calls.mono (HST.out _) ?_
      rintro e w4 ⟨rfl, b4⟩
      have HR4 := Lib.hid (HR3.out.below b4 HR3.out.lt)
      have HK4 := Lib.hid (HK3.out.below b4 HK3.out.lt)
      have HB4 := Lib.hid (HB3.out.trans (b4.mono HB3.out.size))
      clear b4
      go_wp2_with (first
        | (refine wp_loadN rfl _ rfl (w.heap.size + 1) rfl 120 pa HK4.out HPS.out ?_)
        | (refine wp_storeN rfl _ _ rfl w.heap.size pa rfl rfl 120 za HR4.out HPS.out HZS.out HPO.out ?_; intro w5 k5 b5 o5))
      refine bodyPost_ret (v := .tuple #[nV (padNm bs), .int .i64 0]) (fix_res HPW.out (by rw [← HP.out]; exact k5) rfl rfl) rfl ⟨rfl, ?_⟩
      exact HB4.out.trans (b5 _ (Nat.le_refl _))
  · go_enter Try.func67, Try.ntmps67
    go_wp2_with (first
      | (refine wp_copyN rfl _ _ rfl (w.heap.size + 1) rfl s rfl 120 za HB.out.2.1 HZS.out HSZ.out ?_; intro w3 k3 b3 o3; rw [HPC.out] at k3; have HK3 := Lib.hid k3; have HB3 := Lib.hid (HB.out.2.2.trans (b3 w.heap.size (by omega))); have HR3 := Lib.hid (show Bk w3 w.heap.size 120 za from (o3 _ (by omega)).trans HB.out.1); clear k3 b3 o3)
      | (refine wp_loadG rfl _ rfl (w.heap.size + 1) rfl 120 pa HK3.out HPS.out ?_)
      | (refine wp_storeN rfl _ _ rfl w.heap.size za rfl rfl 120 za HR3.out HZS.out HZS.out HZO.out ?_; intro w5 k5 b5 o5))
    refine bodyPost_ret (v := .tuple #[nV zN, .int .i64 4]) (fix_res zN_w (by rw [← HZ.out]; exact k5) rfl rfl) rfl ⟨by cases e2 <;> rfl, ?_⟩
    exact HB3.out.trans (b5 _ (Nat.le_refl _))
end Go.Proofs.Ytkkjnahjmomjgaa
/- Which names may be; table.Fix. No conditions. -/
namespace Go.Proofs.Ytkkjnahjmomjgaa
set_option linter.unusedVariables false
set_option linter.unusedSimpArgs false
open Go.RowKit Go.Maps
set_option maxRecDepth 100000
set_option maxHeartbeats 800000
/-- May a name be? -/
def goodN (bs : Nm) : Prop := 1 ≤ bs.length ∧ bs.length ≤ 32 ∧ ∀ x ∈ bs, x ≠ 0#8
instance decGood (bs : Nm) : Decidable (goodN bs) := inferInstanceAs (Decidable (1 ≤ bs.length ∧ bs.length ≤ 32 ∧ ∀ x ∈ bs, x ≠ 0#8))
theorem cut_app : ∀ (bs : Nm) (n : Nat), (∀ x ∈ bs, x ≠ 0#8) → cutN (bs ++ List.replicate n 0#8) = bs
  | [], 0, _ => rfl
  | [], n + 1, _ => by
    unfold cutN
    rw [List.nil_append, List.replicate_succ, List.takeWhile_cons]
    simp
  | x :: bs, n, h => by
    have ih := cut_app bs n (fun y hy => h y (List.mem_cons_of_mem _ hy))
    have hx := h x List.mem_cons_self
    unfold cutN at ih ⊢
    rw [List.cons_append, List.takeWhile_cons, if_pos (by simpa using hx), ih]
theorem good_cut {bs : Nm} (h : goodN bs) : cutN (padNm bs) = bs := cut_app bs _ h.2.2
theorem cut_zero : cutN zN = [] := by decide +kernel
theorem good_ne {bs : Nm} (h : goodN bs) : padNm bs ≠ zN := fun e => by
  have h1 := good_cut h
  rw [e, cut_zero] at h1
  have h2 := h.1
  rw [← h1] at h2
  simp at h2
theorem fix_ok (bs : Nm) (w : World) (h : goodN bs) : Calls Try.prog 67 #[.string (strB bs)] w (RetP (.tuple #[nV (padNm bs), .int .i64 0]) w) :=
  fix_c bs w h.2.1 false true (by symm; rw [decide_eq_false_iff_not]; exact good_ne h) (by symm; rw [decide_eq_true_eq]; exact good_cut h)
end Go.Proofs.Ytkkjnahjmomjgaa
/- The names that Check lets, as bytes. No conditions. -/
namespace Go.Proofs.Ytkkjnahjmomjgaa
set_option linter.unusedVariables false
set_option linter.unusedSimpArgs false
open Go.RowKit Go.Maps
set_option maxHeartbeats 1000000
theorem index_neg : ∀ l : List UInt8, Lib.indexByte l 0 < 0 → ∀ b ∈ l, b ≠ 0
  | [], _, b, hb => by cases hb
  | x :: l, h, b, hb => by
    have e : Lib.indexByte (x :: l) 0 = if (x == 0) = true then 0 else if (Lib.indexByte l 0 == -1) = true then -1 else Lib.indexByte l 0 + 1 := rfl
    rw [e] at h
    by_cases h1 : (x == 0) = true
    · rw [if_pos h1] at h; omega
    · rw [if_neg h1] at h
      have hl : Lib.indexByte l 0 < 0 := by
        by_cases h2 : (Lib.indexByte l 0 == -1) = true
        · have := eq_of_beq h2; omega
        · rw [if_neg h2] at h; omega
      rcases List.mem_cons.1 hb with rfl | hb
      · intro e0; rw [e0] at h1; exact h1 rfl
      · exact index_neg l hl b hb
def bitsOf (s : ByteArray) : Nm := s.data.toList.map UInt8.toBitVec
theorem strB_bits (s : ByteArray) : strB (bitsOf s) = s := by
  apply ByteArray.ext
  show (strL (s.data.toList.map UInt8.toBitVec)).toArray = s.data
  unfold strL
  rw [List.map_map, show (UInt8.ofBitVec ∘ UInt8.toBitVec) = id from rfl, List.map_id]
theorem bitsOf_len (s : ByteArray) : (bitsOf s).length = s.size := by
  unfold bitsOf
  rw [List.length_map]
  rfl
theorem good_bits {s : ByteArray} (h : goodS s = true) : goodN (bitsOf s) := by
  obtain ⟨h1, h2⟩ := goodS_size h
  have hl := bitsOf_len s
  refine ⟨by omega, by omega, fun x hx e => ?_⟩
  unfold goodS at h
  simp only [Bool.and_eq_true, decide_eq_true_eq] at h
  unfold bitsOf at hx
  obtain ⟨b, hb, rfl⟩ := List.mem_map.1 hx
  refine index_neg _ h.2.2 b hb ?_
  have := congrArg UInt8.ofBitVec e
  exact this
theorem nameW_pad (s : ByteArray) : nameW s = padNm (bitsOf s) := by
  unfold nameW padNm
  rw [bitsOf_len]
  rfl
end Go.Proofs.Ytkkjnahjmomjgaa
/- space: Alloc, Reset. Conditions: lengths. -/
namespace Go.Proofs.Ytkkjnahjmomjgaa
set_option linter.unusedVariables false
set_option linter.unusedSimpArgs false
open Go.RowKit
/-- The words with a new object of n words at t. -/
def allocW (ws : List (BitVec 64)) (t n : Nat) (x : BitVec 64) : List (BitVec 64) := zeroW (ws.set t x) (t + 1) (n - 1)
set_option maxHeartbeats 400000
set_option maxRecDepth 100000
theorem alloc_ok3 (w : World) (B s g : Nat) (v : Value) (ws : List (BitVec 64)) (b t e : Nat) (sp : SpAt w B s g v ws b t e) (hl : ws.length ≤ 100000) (hp hb ht : Int) (n : Nat) (hr : rightH hp hb false ht = true) (hn : sizeH hp hb false ht = (n : Int)) (hn1 : 1 ≤ n) (hf : n ≤ e - t) :
    Calls Try.prog 60 #[.pointer (some ⟨s, 0, none⟩), .agg #[.int .i64 hp, .int .i64 hb, .bool false, .int .i64 ht]] w fun r w' => r = .returned (.tuple #[.int .i64 t, .int .i64 0]) ∧ SpAt w' B s g v (allocW ws t n (packH hp hb false ht)) b (t + n) e ∧ Below B w w' ∧ Two w w' s v.ownBlock := by
  have HPk := Lib.hid (fun W => pack_c hp hb false ht W)
  have HSz := Lib.hid (fun W => size_c hp hb false ht W)
  rw [hn] at HSz
  have hk := Bk.new w 112 #[.int .i64 hp, .int .i64 hb, .bool false, .int .i64 ht]
  have HK := Lib.hid hk
  have hB := Gw.alloc w (.cells #[.int .i64 hp, .int .i64 hb, .bool false, .int .i64 ht] 112)
  have HB := Lib.hid hB
  have e1 : errH hp hb false ht = 0 := by unfold errH; rw [hr]; rfl
  rw [e1] at HPk
  have HFr := Lib.hid (fun W (h : Below w.heap.size w W) => free_c W B s g v ws b t e (sp.below h) hl)
  obtain ⟨room, hroom⟩ : ∃ r, r = e - t := ⟨_, rfl⟩
  rw [← hroom] at HFr
  have u1 : ¬ room < n := by omega
  obtain ⟨x, hx⟩ : ∃ x, x = packH hp hb false ht := ⟨_, rfl⟩
  rw [← hx] at HPk ⊢
  have hte := sp.te
  have hel := sp.el
  have htl : t < ws.length := by omega
  have HSet := Lib.hid (fun W (h : MemAt W B g v ws) => set_in W B g v ws t x htl hl h)
  have hlen2 : (ws.set t x).length = ws.length := List.length_set
  have HZr := Lib.hid (fun W (h : SpAt W B s g v (ws.set t x) b t e) => zero_c W B s g v (ws.set t x) b t e (t + 1) (t + n) h (by omega) (by rw [hlen2]; omega) (by rw [hlen2]; exact hl))
  obtain ⟨tn, htn⟩ : ∃ tn, tn = t + n := ⟨_, rfl⟩
  have htn1 : tn - (t + 1) = n - 1 := by omega
  have ht1 : ((t + 1 : Nat) : Int) = (t : Int) + 1 := by omega
  rw [← htn, htn1, ht1] at HZr
  rw [← htn]
  have d2 : (t : Int) + (n : Int) = (tn : Int) := by omega
  have d3 : (tn : Int) ≤ 100000 := by omega
  have d4 : (t : Int) ≤ 100000 := by omega
  have d5 : (0 : Int) ≤ (tn : Int) := by omega
  have HX := Lib.hid (And.intro hlen2 (And.intro (show b ≤ tn by have := sp.bt; omega) (show tn ≤ e by omega)))
  have HSP := Lib.hid sp
  clear sp hr hn hk hB e1 hl hf hroom hx hte hel htl hlen2 htn htn1 hn1
  go_enter Try.func60, Try.ntmps60
  go_wp2_with fail
  refine Calls.mono (HPk.out _) ?_
  rintro r w1 ⟨rfl, b1⟩
  have HB1 := Lib.hid (HB.out.trans (b1.mono HB.out.size))
  have hk1 := HK.out.below b1 HK.out.lt
  obtain ⟨k0, k1, k2, k3⟩ := hk1.four
  clear b1 hk1
  go_wp2_with fail
  refine Calls.mono (HSz.out _) ?_
  rintro r w2 ⟨rfl, b2⟩
  have HB2 := Lib.hid (HB1.out.trans (b2.mono HB1.out.size))
  clear b2
  go_wp2_with fail
  refine Calls.mono (HFr.out _ HB2.out) ?_
  rintro r w3 ⟨rfl, b3⟩
  have HB3 := Lib.hid (HB2.out.trans (b3.mono HB2.out.size))
  have hsp3 := HSP.out.below HB3.out
  obtain ⟨c0, c1, c2, c3⟩ := hsp3.four
  have HSP3 := Lib.hid hsp3
  clear b3 hsp3 k0 k1 k2 k3
  go_wp2_with fail
  refine Calls.mono (HSet.out w3 HSP3.out.mem) ?_
  rintro r w4 ⟨rfl, hm4, hg4⟩
  have hsp4 := HSP3.out.memTo hm4 hg4 HX.out.1
  have HB4 : Hid (Below B w w4) := Lib.hid ((HB3.out.mono HSP.out.mem.le).trans (HSP3.out.mem.own hg4))
  have HT4 : Hid (Two w w4 s v.ownBlock) := Lib.hid ((Two.below HB3.out).trans (Two.grown hg4))
  have HSP4 := Lib.hid hsp4
  clear hm4 hg4 hsp4 HSP3
  go_wp2_with fail
  refine Calls.mono (HZr.out w4 HSP4.out) ?_
  rintro r w5 ⟨rfl, hsp5, hg5⟩
  have HB5 : Hid (Below B w w5) := Lib.hid (HB4.out.trans (HSP4.out.mem.own hg5))
  have HT5 : Hid (Two w (w5.setCell ⟨s, 2, none⟩ (.int .i64 tn)) s v.ownBlock) := Lib.hid ((HT4.out.trans (Two.grown hg5)).trans (Two.setc w5 s 2 _ _))
  obtain ⟨c0, c1, c2, c3⟩ := hsp5.four
  have hf2 := hsp5.blk.free 2
  have hsl := hsp5.blk.lt
  have hfin : SpAt (w5.setCell ⟨s, 2, none⟩ (.int .i64 tn)) B s g v (allocW ws t n x) b tn e ∧ Below B w (w5.setCell ⟨s, 2, none⟩ (.int .i64 tn)) := by
    have hgr := grown_set w5 ⟨s, 2, none⟩ (.int .i64 tn)
    refine ⟨⟨hsp5.mem.grown hgr (fun e => hsp5.sg (by injection e with e; exact e.symm)) (.inr hsp5.sv), hsp5.blk.set 2 _, hsp5.sg, hsp5.sv, hsp5.hs, HX.out.2.1, HX.out.2.2, hsp5.el⟩, HB5.out.setCell (p := ⟨s, 2, none⟩) hsp5.hs _⟩
  have HFin := Lib.hid hfin
  clear hfin hsp5 hg5 HSP4
  go_wp2_with fail
  go_ret2
  exact ⟨rfl, HFin.out.1, HFin.out.2, HT5.out⟩
end Go.Proofs.Ytkkjnahjmomjgaa
/- What loamlaw15.known answers: true. No conditions. -/
namespace Go.Proofs.Ytkkjnahjmomjgaa
set_option linter.unusedVariables false
set_option linter.unusedSimpArgs false
open Go.RowKit
def kW0 : List (BitVec 64) := List.replicate 20 0#64
def kW1 : List (BitVec 64) := allocW kW0 2 3 (packH 2 0 false 0)
def kW2 : List (BitVec 64) := allocW kW1 5 3 (packH 0 9 false 0)
set_option maxRecDepth 100000
set_option maxHeartbeats 400000
end Go.Proofs.Ytkkjnahjmomjgaa
/- loamref14's Objects; loamlaw15's Mem, ints. Conditions: lengths. -/
namespace Go.Proofs.Ytkkjnahjmomjgaa
set_option linter.unusedVariables false
set_option linter.unusedSimpArgs false
open Go.RowKit
/-- Block R holds the document's space of the words ws. -/
structure RefAt (W : World) (R : Nat) (A : Option Addr) (c : Nat) (ws : List (BitVec 64)) (b t e : Nat) : Prop where
  blk : Bk W R 165 #[.slice A ws.length c, .int .i64 b, .int .i64 t, .int .i64 e]
  rd : Rd u64v W W.heap.size A ws
theorem RefAt.below {W W' : World} {R : Nat} {A : Option Addr} {c : Nat} {ws : List (BitVec 64)} {b t e : Nat} (h : RefAt W R A c ws b t e) (hb : Below W.heap.size W W') : RefAt W' R A c ws b t e := ⟨h.blk.below hb h.blk.lt, (h.rd.below hb).more hb.size⟩
theorem RefAt.four {W : World} {R : Nat} {A : Option Addr} {c : Nat} {ws : List (BitVec 64)} {b t e : Nat} (h : RefAt W R A c ws b t e) : W.cell? ⟨R, 0, none⟩ = some (.slice A ws.length c) ∧ W.cell? ⟨R, 1, none⟩ = some (.int .i64 b) ∧ W.cell? ⟨R, 2, none⟩ = some (.int .i64 t) ∧ W.cell? ⟨R, 3, none⟩ = some (.int .i64 e) := ⟨h.blk.cell 0, h.blk.cell 1, h.blk.cell 2, h.blk.cell 3⟩
set_option maxHeartbeats 400000
set_option maxRecDepth 100000
def RObjP (r : Option (List Nat)) (w : World) (e : Ending) (w' : World) : Prop := match r with
  | some l => ∃ A c, e = .returned (.tuple #[.slice A l.length c, .bool true]) ∧ l.length ≤ c ∧ Ow iN 3 w' w.heap.size (.slice A l.length c) l ∧ Below w.heap.size w w'
  | none => RetP (.tuple #[.slice none 0 0, .bool false]) w e w'
end Go.Proofs.Ytkkjnahjmomjgaa
/- space: Of; loamlaw15's Mem, ints, Same. Conditions: lengths. -/
namespace Go.Proofs.Ytkkjnahjmomjgaa
set_option linter.unusedVariables false
set_option linter.unusedSimpArgs false
open Go.RowKit
set_option maxHeartbeats 400000
set_option maxRecDepth 100000
theorem sof_out (w : World) (m : Value) (b t e : Int) (hb : Calls Try.prog 59 #[m, .int .i64 b, .int .i64 t, .int .i64 e] w fun r w' => r = .returned (.tuple #[.pointer none, .int .i64 1]) ∧ w' = w) :
    Calls Try.prog 75 #[m, .int .i64 b, .int .i64 t, .int .i64 e] w fun r w' => r = .returned (.tuple #[.pointer none, .int .i64 1]) ∧ w' = w := by
  have HB := Lib.hid hb
  clear hb
  go_enter Try.func75, Try.ntmps75
  go_wp2_with fail
  refine Calls.mono HB.out ?_
  rintro r w1 ⟨rfl, rfl⟩
  go_wp2_with fail
  go_ret2
  exact ⟨rfl, rfl⟩
theorem sof_none (w : World) (B g : Nat) (v : Value) (ws : List (BitVec 64)) (b t e : Nat) (h : MemAt w B g v ws) (hbt : b ≤ t) (hte : t ≤ e) (hel : e ≤ ws.length) (hl : ws.length ≤ 100000) (ho : objF ws t (t + 1) b = none) :
    Calls Try.prog 75 #[.pointer (some ⟨g, 0, none⟩), .int .i64 b, .int .i64 t, .int .i64 e] w (RetP (.tuple #[.pointer none, .int .i64 2]) w) := by
  have HB := Lib.hid (bare_in w B g v ws b t e h hbt hte hel hl)
  have HO := Lib.hid (fun W s (p : SpAt W B s g v ws b t e) => objects_c W B s g v ws b t e p hl)
  rw [ho] at HO
  clear h hbt hte hel hl ho
  go_enter Try.func75, Try.ntmps75
  go_wp2_with fail
  refine Calls.mono HB.out ?_
  rintro r w1 ⟨s, rfl, h1, b1⟩
  have H1 := Lib.hid (And.intro h1 b1)
  clear h1 b1
  go_wp2_with fail
  refine Calls.mono (HO.out w1 s H1.out.1) ?_
  rintro r w2 ⟨rfl, b2⟩
  have H2 := Lib.hid (H1.out.2.trans (b2.mono H1.out.2.size))
  clear b2
  go_wp2_with fail
  go_ret2
  exact ⟨rfl, H2.out⟩
theorem sof_some (w : World) (B g : Nat) (v : Value) (ws : List (BitVec 64)) (b t e : Nat) (h : MemAt w B g v ws) (hbt : b ≤ t) (hte : t ≤ e) (hel : e ≤ ws.length) (hl : ws.length ≤ 100000) (l : List Nat) (ho : objF ws t (t + 1) b = some l) :
    Calls Try.prog 75 #[.pointer (some ⟨g, 0, none⟩), .int .i64 b, .int .i64 t, .int .i64 e] w fun r w' => ∃ s, r = .returned (.tuple #[.pointer (some ⟨s, 0, none⟩), .int .i64 0]) ∧ SpAt w' B s g v ws b t e ∧ Below w.heap.size w w' := by
  have HB := Lib.hid (bare_in w B g v ws b t e h hbt hte hel hl)
  have HO := Lib.hid (fun W s (p : SpAt W B s g v ws b t e) => objects_c W B s g v ws b t e p hl)
  rw [ho] at HO
  clear h hbt hte hel hl ho
  go_enter Try.func75, Try.ntmps75
  go_wp2_with fail
  refine Calls.mono HB.out ?_
  rintro r w1 ⟨s, rfl, h1, b1⟩
  have H1 := Lib.hid (And.intro h1 b1)
  clear h1 b1
  go_wp2_with fail
  refine Calls.mono (HO.out w1 s H1.out.1) ?_
  rintro r w2 ⟨A2, c2, rfl, _, _, b2⟩
  have H2 := Lib.hid (And.intro (H1.out.1.below b2) (H1.out.2.trans (b2.mono H1.out.2.size)))
  clear b2
  go_wp2_with fail
  go_ret2
  exact ⟨s, rfl, H2.out.1, H2.out.2⟩
end Go.Proofs.Ytkkjnahjmomjgaa
/- loamlaw15's Same. Conditions: lengths. -/
namespace Go.Proofs.Ytkkjnahjmomjgaa
set_option linter.unusedVariables false
set_option linter.unusedSimpArgs false
open Go.RowKit
set_option maxHeartbeats 400000
set_option maxRecDepth 100000
end Go.Proofs.Ytkkjnahjmomjgaa
