/- What table.Fix answers. No conditions. -/
import Derived.Test.YtdfhdgdhhgabbaaNmC
namespace Go.Proofs.Ytdfhdgdhhgabbaa
set_option linter.unusedVariables false
set_option linter.unusedSimpArgs false
open Go.RowKit Go.Maps
set_option maxRecDepth 100000
set_option maxHeartbeats 800000
theorem strB_size (bs : Nm) : (strB bs).size = bs.length := by
  show (strL bs).toArray.size = _
  simp [strL]
theorem strB_cells (bs : Nm) : Lib.byteCells (strB bs).data.toList = bs.map b8 := by
  show Lib.byteCells (strL bs).toArray.toList = _
  unfold Lib.byteCells strL
  simp only [List.map_map]
  rfl
theorem strB_of (s : ByteArray) : ∃ bs : Nm, s = strB bs := by
  refine ⟨s.data.toList.map UInt8.toBitVec, ?_⟩
  apply ByteArray.ext
  show s.data = (strL (s.data.toList.map UInt8.toBitVec)).toArray
  unfold strL
  rw [List.map_map, show (UInt8.ofBitVec ∘ UInt8.toBitVec) = id from rfl, List.map_id]
theorem str_eq (x y : Nm) : ((strB x).toList == (strB y).toList) = decide (x = y) := by
  by_cases h : x = y
  · subst h; simp
  · have hne : ¬ (strB x).toList = (strB y).toList := fun e => h (strB_inj (by
      rw [ByteArray.toList_eq, ByteArray.toList_eq] at e
      exact ByteArray.ext (Array.toList_inj.1 e)))
    simp [h, hne]
/-- A text as a name. -/
def padNm (bs : Nm) : Nm := bs ++ List.replicate (32 - bs.length) 0#8
theorem padNm_w {bs : Nm} (h : bs.length ≤ 32) : nW (padNm bs) := by
  unfold nW padNm
  rw [List.length_append, List.length_replicate]
  omega
theorem nC_list (k : Nm) : (nC k).toList = k.map b8 := by unfold nC; simp
theorem pad_cells {bs : Nm} (h : bs.length ≤ 32) : (Lib.byteCells (strB bs).data.toList ++ (nC zN).toList.drop (strB bs).size).toArray = nC (padNm bs) := by
  rw [strB_cells, strB_size, nC_list]
  unfold nC padNm zN
  rw [List.map_append, List.map_replicate, List.map_replicate, List.drop_replicate]
def fixR (bs : Nm) (e1 e2 : Bool) : Value := match e1, e2 with
  | false, true => .tuple #[nV (padNm bs), .int .i64 0]
  | _, _ => .tuple #[nV zN, .int .i64 4]
theorem fix_res {tmps : Array Value} {W : World} {g : Nat} {E : TypeId} {k : Nm} {y : Value} (hk : nW k) (hb : Bk W g E (nC k)) (h2 : tmps.getD 2 undef = .pointer (some ⟨g, 0, none⟩)) (h3 : tmps.getD 3 undef = y) :
    (results Try.f8 tmps).run Try.prog W = .ok (.tuple #[nV k, y]) W := by
  have hl := run_loadVar_row (P := Try.prog) W g E 24 (nC k) (0, 0) _ hb Try.underlying24 rfl (by rw [nC_size hk]; kernel_rfl)
  have h2' : tmps[2]?.getD undef = .pointer (some ⟨g, 0, none⟩) := by simpa using h2
  have h3' : tmps[3]?.getD undef = y := by simpa using h3
  unfold nV
  simp [results, Try.results8, h2', h3', asAddr, hl]
theorem ldN {w : World} {g : Nat} {E : TypeId} {cs : Array Value} (hb : Bk w g E cs) (hs : cs.size = 32) : (loadVar 24 ⟨g, 0, none⟩).run Try.prog w = .ok (.agg cs) w :=
  run_loadVar_row w g E 24 cs (0, 0) _ hb Try.underlying24 rfl (by rw [hs]; kernel_rfl)
theorem fix_long (bs : Nm) (w : World) (h : 32 < bs.length) : Calls Try.prog 8 #[.string (strB bs)] w (RetP (.tuple #[nV zN, .int .i64 4]) w) := by
  obtain ⟨s, hs⟩ : ∃ s, s = strB bs := ⟨_, rfl⟩
  have hz : s.size = bs.length := by rw [hs]; exact strB_size bs
  rw [← hs]
  have q1 : decide ((32 : Int) < (s.size : Int)) = true := by simp; omega
  obtain ⟨za, hza⟩ : ∃ za, za = nC zN := ⟨_, rfl⟩
  have hzero := zeroN
  rw [← hza] at hzero
  have HZ := Lib.hid hza
  have HB := Lib.hid (Bk.new w 24 za)
  have HW := Lib.hid (Gw.alloc w (.cells za 24))
  have HZS := Lib.hid (show za.size = 32 from by rw [hza]; exact nC_size zN_w)
  have HZO := Lib.hid (show za.all (·.oneCell') = true from by rw [hza]; exact nC_one zN)
  clear h hs hz hza
  go_enter Try.func8, Try.ntmps8
  go_wp2_with (refine wp_storeN rfl _ _ rfl w.heap.size za rfl rfl 24 za (HB.out.alloc _) HZS.out HZS.out HZO.out ?_; intro w3 k3 b3 o3)
  refine bodyPost_ret (v := .tuple #[nV zN, .int .i64 4]) (fix_res zN_w (by rw [← HZ.out]; exact k3) rfl rfl) rfl ⟨rfl, ?_⟩
  exact (HW.out.trans ((Gw.alloc _ _).mono (by simp))).trans (b3 _ (Nat.le_refl _))
theorem fix_c (bs : Nm) (w : World) (h : bs.length ≤ 32) (e1 e2 : Bool) (h1 : e1 = decide (padNm bs = zN)) (h2 : e2 = decide (cutN (padNm bs) = bs)) : Calls Try.prog 8 #[.string (strB bs)] w (RetP (fixR bs e1 e2) w) := by
  obtain ⟨s, hs⟩ : ∃ s, s = strB bs := ⟨_, rfl⟩
  have hz : s.size = bs.length := by rw [hs]; exact strB_size bs
  have hpc := pad_cells h
  have hpw := padNm_w h
  have HST := Lib.hid (fun W => string_c W (padNm bs) hpw)
  have hse := str_eq (cutN (padNm bs)) bs
  rw [← h2] at hse
  rw [← hs] at hpc hse ⊢
  have q1 : decide ((32 : Int) < (s.size : Int)) = false := by simp; omega
  obtain ⟨za, hza⟩ : ∃ za, za = nC zN := ⟨_, rfl⟩
  obtain ⟨pa, hpa⟩ : ∃ pa, pa = nC (padNm bs) := ⟨_, rfl⟩
  have hzero := zeroN
  have heq := eqN (padNm bs) zN hpw zN_w
  rw [← hza] at hzero hpc heq
  rw [← hpa] at hpc heq
  rw [← h1] at heq
  unfold nV at HST
  rw [← hpa] at HST
  have HZ := Lib.hid hza
  have HP := Lib.hid hpa
  have HPW := Lib.hid hpw
  have HZS := Lib.hid (show za.size = 32 from by rw [hza]; exact nC_size zN_w)
  have HZO := Lib.hid (show za.all (·.oneCell') = true from by rw [hza]; exact nC_one zN)
  have HPS := Lib.hid (show pa.size = 32 from by rw [hpa]; exact nC_size hpw)
  have HPO := Lib.hid (show pa.all (·.oneCell') = true from by rw [hpa]; exact nC_one _)
  have HSZ := Lib.hid (show s.size ≤ 32 from by omega)
  have HPC := Lib.hid hpc
  obtain ⟨cs, hcs⟩ : ∃ cs, cs = strB (cutN (padNm bs)) := ⟨_, rfl⟩
  rw [← hcs] at hse HST
  have HB := Lib.hid (show Bk ((w.alloc (.cells za 24)).alloc (.cells za 24)) w.heap.size 24 za ∧ Bk ((w.alloc (.cells za 24)).alloc (.cells za 24)) (w.heap.size + 1) 24 za ∧ Below w.heap.size w ((w.alloc (.cells za 24)).alloc (.cells za 24)) from by
    refine ⟨(Bk.new w _ _).alloc _, ?_, (Gw.alloc w _).trans ((Gw.alloc _ _).mono (by simp))⟩
    have q := Bk.new (w.alloc (.cells za 24)) 24 za
    simpa using q)
  obtain ⟨n1, hn1⟩ : ∃ n, n = w.heap.size + 1 := ⟨_, rfl⟩
  have HN := Lib.hid (show w.heap.size ≤ n1 ∧ w.heap.size ≠ n1 from by omega)
  clear h hs hz hza hpa hpc hpw h1 h2 hcs
  cases e1
  · cases e2
    · go_enter Try.func8, Try.ntmps8
      go_wp2_with (first
        | (refine wp_copyN rfl _ _ rfl (w.heap.size + 1) rfl s rfl 24 za HB.out.2.1 HZS.out HSZ.out ?_; intro w3 k3 b3 o3; rw [HPC.out] at k3; have HK3 := Lib.hid k3; have HB3 := Lib.hid (HB.out.2.2.trans (b3 w.heap.size (by omega))); have HR3 := Lib.hid (show Bk w3 w.heap.size 24 za from (o3 _ (by omega)).trans HB.out.1); clear k3 b3 o3)
        | (refine wp_loadG rfl _ rfl (w.heap.size + 1) rfl 24 pa HK3.out HPS.out ?_))
      refine Calls.mono (HST.out _) ?_
      rintro e w4 ⟨rfl, b4⟩
      have HR4 := Lib.hid (HR3.out.below b4 HR3.out.lt)
      have HB4 := Lib.hid (HB3.out.trans (b4.mono HB3.out.size))
      clear b4
      go_wp2_with (refine wp_storeN rfl _ _ rfl w.heap.size za rfl rfl 24 za HR4.out HZS.out HZS.out HZO.out ?_; intro w5 k5 b5 o5)
      refine bodyPost_ret (v := .tuple #[nV zN, .int .i64 4]) (fix_res zN_w (by rw [← HZ.out]; exact k5) rfl rfl) rfl ⟨rfl, ?_⟩
      exact HB4.out.trans (b5 _ (Nat.le_refl _))
    · go_enter Try.func8, Try.ntmps8
      go_wp2_with (first
        | (refine wp_copyN rfl _ _ rfl (w.heap.size + 1) rfl s rfl 24 za HB.out.2.1 HZS.out HSZ.out ?_; intro w3 k3 b3 o3; rw [HPC.out] at k3; have HK3 := Lib.hid k3; have HB3 := Lib.hid (HB.out.2.2.trans (b3 w.heap.size (by omega))); have HR3 := Lib.hid (show Bk w3 w.heap.size 24 za from (o3 _ (by omega)).trans HB.out.1); clear k3 b3 o3)
        | (refine wp_loadG rfl _ rfl (w.heap.size + 1) rfl 24 pa HK3.out HPS.out ?_))
      refine Calls.mono (HST.out _) ?_
      rintro e w4 ⟨rfl, b4⟩
      have HR4 := Lib.hid (HR3.out.below b4 HR3.out.lt)
      have HK4 := Lib.hid (HK3.out.below b4 HK3.out.lt)
      have HB4 := Lib.hid (HB3.out.trans (b4.mono HB3.out.size))
      clear b4
      go_wp2_with (first
        | (refine wp_loadN rfl _ rfl (w.heap.size + 1) rfl 24 pa HK4.out HPS.out ?_)
        | (refine wp_storeN rfl _ _ rfl w.heap.size pa rfl rfl 24 za HR4.out HPS.out HZS.out HPO.out ?_; intro w5 k5 b5 o5))
      refine bodyPost_ret (v := .tuple #[nV (padNm bs), .int .i64 0]) (fix_res HPW.out (by rw [← HP.out]; exact k5) rfl rfl) rfl ⟨rfl, ?_⟩
      exact HB4.out.trans (b5 _ (Nat.le_refl _))
  · go_enter Try.func8, Try.ntmps8
    go_wp2_with (first
      | (refine wp_copyN rfl _ _ rfl (w.heap.size + 1) rfl s rfl 24 za HB.out.2.1 HZS.out HSZ.out ?_; intro w3 k3 b3 o3; rw [HPC.out] at k3; have HK3 := Lib.hid k3; have HB3 := Lib.hid (HB.out.2.2.trans (b3 w.heap.size (by omega))); have HR3 := Lib.hid (show Bk w3 w.heap.size 24 za from (o3 _ (by omega)).trans HB.out.1); clear k3 b3 o3)
      | (refine wp_loadG rfl _ rfl (w.heap.size + 1) rfl 24 pa HK3.out HPS.out ?_)
      | (refine wp_storeN rfl _ _ rfl w.heap.size za rfl rfl 24 za HR3.out HZS.out HZS.out HZO.out ?_; intro w5 k5 b5 o5))
    refine bodyPost_ret (v := .tuple #[nV zN, .int .i64 4]) (fix_res zN_w (by rw [← HZ.out]; exact k5) rfl rfl) rfl ⟨by cases e2 <;> rfl, ?_⟩
    exact HB3.out.trans (b5 _ (Nat.le_refl _))
end Go.Proofs.Ytdfhdgdhhgabbaa
