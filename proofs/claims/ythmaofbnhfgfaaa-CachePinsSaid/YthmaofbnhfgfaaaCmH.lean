/- cache.Cache's room where a page goes. Conditions: lengths; where the hand stops. -/
import Derived.Test.YthmaofbnhfgfaaaCmG
import Derived.Test.YthmaofbnhfgfaaaRegY2
import Derived.Deep.Light
namespace Go.Proofs.Ythmaofbnhfgfaaa
set_option linter.unusedVariables false
set_option linter.unusedSimpArgs false
open Go.RowKit Go.Maps
set_option maxRecDepth 100000
set_option maxHeartbeats 8000000
section
variable {w : World} {g fb mb N : Nat} {fs : List Fr} {hand : Nat} {tb : Tk}
def outF (f : Fr) : Array Value := #[.int .i64 f.k.1, .int .i64 f.k.2, .slice f.A f.b.length f.c, .bool f.dirty, .bool true]
theorem room_evict (h : CaAt w g fb mb N fs hand tb none) (h1 : ∀ f ∈ fs, f.full = true) (K : Nat) (hK : K < N) (h2 : ∀ j (hj : j < fs.length), j < K → fs[j].pins ≠ 0) (h3 : ∀ hj : K < fs.length, fs[K].pins = 0) (n : Nat) (fs' : List Fr) (i : Nat) (hs : Stops N n fs hand fs' i) :
    Calls Try.prog 17 #[.pointer (some ⟨g, 0, none⟩)] w fun e w' => ∃ hi : i < fs'.length, e = .returned (.tuple #[.int .i64 i, .agg (outF fs'[i]), .int .i64 0]) ∧ CaAt w' g fb mb N fs' ((i + 1) % N) (delK tb fs'[i].k) (some i) ∧ Kept (Cx g fb mb) w w' := by
  have hb := Gw.alloc w (.cells outC 32)
  have hz := Bk.new w 32 outC
  have hI := index1_c (h.below hb) (fun f => !f.full) rfl N (Nat.le_refl _) (fun j hj _ => by rw [h1 _ (List.getElem_mem hj)]; rfl) (fun hj => absurd hj (by have := h.n; omega)) (-1) (by rw [if_neg (by omega)])
  have HCo := Lib.hid (fun W (hW : Below w.heap.size w W) => contains_c (h.below hW) (fun f => decide (f.pins = 0)) rfl K (by omega) (fun j hj hjk => decide_eq_false (h2 j hj hjk)) (fun hj => decide_eq_true (h3 hj)))
  rw [show decide (K < N) = true from decide_eq_true hK] at HCo
  have HH := Lib.hid h
  have HFull := Lib.hid (hs.fulls h1)
  have HS := Lib.hid hs
  have hne : w.heap.size ≠ g ∧ w.heap.size ≠ fb ∧ w.heap.size ≠ mb := by have := h.blk.lt; have := h.fr.lt; have := h.map.lt; omega
  have HNE := Lib.hid (And.intro hne (show ∀ f ∈ fs, ∀ a, f.A = some a → f.b ≠ [] → a.block ≠ w.heap.size from fun f hf a e hb => by have := h.lows f hf a e hb; omega))
  have c0 : (w.alloc (.cells outC 32)).cell? ⟨g, 0, none⟩ = some (.slice (some ⟨fb, 0, none⟩) N N) := (h.below hb).three.1
  unfold outC at hI c0 hb hz
  have HI := Lib.hid hI
  have HB := Lib.hid (And.intro hb hz)
  clear h hb hz h1 h2 h3 hI hs hne
  go_enter Try.func17, Try.ntmps17
  go_wp2_with fail
  refine Calls.mono HI.out ?_
  rintro e w2 ⟨rfl, b2⟩
  have hbw := HB.out.1.trans (b2.mono HB.out.1.size)
  have HZ := Lib.hid (show Bk w2 w.heap.size 32 outC from HB.out.2.below b2 (by simp))
  have e0 := (HH.out.below hbw).three.1
  have HB2 := Lib.hid hbw
  clear b2 HI c0 hbw
  go_wp2_with fail
  refine Calls.mono (HCo.out _ HB2.out) ?_
  rintro e w3 ⟨rfl, b3⟩
  have HZ3 := Lib.hid (HZ.out.below b3 HZ.out.lt)
  have HB3 := Lib.hid (HB2.out.trans (b3.mono HB2.out.size))
  clear b3 e0 HCo
  go_wp2_with fail
  go_loopg [6] n (fun gk s6 wr => ∃ (fs1 : List Fr) (h1 : Nat), Hid (Stops N gk fs1 h1 fs' i) ∧ Hid (CaAt wr g fb mb N fs1 h1 tb none) ∧ Hid (Bk wr w.heap.size 32 outC) ∧ Hid (Kept (Cx g fb mb) w wr) ∧ Hid (∀ f ∈ fs1, ∀ a, f.A = some a → f.b ≠ [] → a.block ≠ w.heap.size) ∧ Hid (w.heap.size < wr.heap.size))
  case atStart => exact ⟨fs, hand, HS, Lib.hid (HH.out.below HB3.out), HZ3, Lib.hid (Kept.of_below HB3.out _), Lib.hid HNE.out.2, Lib.hid (by have := HZ3.out.lt; exact this)⟩
  case round =>
    obtain ⟨fs1, h1, hst, hc, hzz, hbl, hlo, hsz⟩ := hrel
    obtain ⟨hh, hcase⟩ := hst.out.inv
    have hlN := hc.out.hl
    have hN := hc.out.nl
    obtain ⟨h2, hh2⟩ : ∃ q, q = (h1 + 1) % N := ⟨_, rfl⟩
    have hh2l : h2 < N := by rw [hh2]; exact Nat.mod_lt _ (by omega)
    have hm : ((h1 : Int) + 1).tmod (N : Int) = (h2 : Int) := by rw [hh2, Int.tmod_eq_emod_of_nonneg (by omega)]; simp
    obtain ⟨c0, c1, c2⟩ := hc.out.three
    have HReg := Lib.hid (fun Q a0 => hand_reg Q a0 wr g fb N h1 h2 hc.out.blk.lt c0 c2 hm (by omega) (by omega) (by omega) (by omega) (by simp; omega) (by omega))
    have p0 : (0 : Int) ≤ (h1 : Int) := by omega
    have p1 : (h1 : Int) < (N : Int) := by omega
    rw [← hh2] at hcase
    have HH2 := Lib.hid (And.intro hh2 hh2l)
    have HCase := Lib.hid hcase
    clear hm hh2 hh2l hcase hst hlN hN c0 c1
    go_wp2_with fail
    refine HReg.out _ _ rfl rfl ?_
    intro vals w5 hG h39 h41
    unfold IsV at h39 h41
    simp only [putD, Act.put, List.setIfInBounds_toArray, List.set_cons_zero, List.set_cons_succ, h39, h41]
    have h5 := hc.out.below hG
    have e2 := h5.three.2.2
    have f2 := h5.blk.free 2
    have h6 := h5.setHand h2 HH2.out.2
    have e0 := h6.three.1
    obtain ⟨W6, hW6⟩ : ∃ W, W = w5.setCell ⟨g, 2, none⟩ (.int .i64 h2) := ⟨_, rfl⟩
    have hk6 : Kept (fun k => k = g) wr W6 := by rw [hW6]; exact (Kept.of_below hG _).trans (Kept.set _ _ _ _)
    rw [← hW6] at h6
    obtain ⟨x0, x1, x2, x3, x4, x5, x6⟩ := h6.cells hh
    obtain ⟨f, hf⟩ : ∃ f, f = fs1[h1] := ⟨_, rfl⟩
    rw [← hf] at x0 x1 x2 x3 x4 x5 x6
    have HZ6 := Lib.hid (show Bk W6 w.heap.size 32 outC ∧ Kept (Cx g fb mb) w W6 from ⟨hk6.bk hzz.out (fun e => HNE.out.1.1 e), hbl.out.trans (hk6.more (fun k e => .inl e))⟩)
    have H6 := Lib.hid (And.intro h6 (show w.heap.size < W6.heap.size from by have := hk6.size; have := hsz.out; omega))
    have HF := Lib.hid hf
    have HW6 := Lib.hid hW6
    rw [hW6] at x0 x1 x2 x3 x4 x5 x6
    clear h39 h41 hG HReg h5 h6 hk6 hW6 c2 hc hzz hbl hsz hf
    rcases HCase.out with ⟨rfl, rfl, rfl, q1, q2⟩ | ⟨m, rfl, q1, q2⟩ | ⟨m, rfl, q1, q2, q3⟩
    · have hfull := HFull.out _ (List.getElem_mem hh)
      have x5' : (w5.setCell ⟨g, 2, none⟩ (.int .i64 h2)).cell? ⟨fb, h1 * 7 + 5, none⟩ = some (.int .i64 0) := by rw [x5, HF.out, q1]; rfl
      have x6' : (w5.setCell ⟨g, 2, none⟩ (.int .i64 h2)).cell? ⟨fb, h1 * 7 + 6, none⟩ = some (.bool false) := by rw [x6, HF.out, q2]
      have hkw := H6.out.1.kw _ (List.getElem_mem hh)
      rw [← HF.out] at hkw
      obtain ⟨k, hk⟩ : ∃ k, k = f.k := ⟨_, rfl⟩
      rw [← hk] at x0 x1 hkw
      obtain ⟨kx, ky⟩ := k
      simp only at x0 x1
      have HKK := Lib.hid (And.intro hk hkw)
      have HFu := Lib.hid hfull
      obtain ⟨n3, hn3⟩ : ∃ n3, n3 = f.b.length := ⟨_, rfl⟩
      rw [← hn3] at x3
      have HX := Lib.hid (And.intro x0 (And.intro x1 (And.intro x3 (And.intro x4 hn3))))
      have HReg2 := Lib.hid (fun Q a0 => del_reg Q a0 (w5.setCell ⟨g, 2, none⟩ (.int .i64 h2)) g fb mb h1 kx ky (by rw [← HW6.out]; exact H6.out.1.blk.lt) (by rw [← HW6.out]; exact H6.out.1.fr.lt) (by rw [← HW6.out]; exact H6.out.1.three.2.1) x0 x1)
      clear q1 q2 HCase x0 x1 x2 x3 x4 x5 x6 hk hkw hfull hn3
      go_wp2_with fail
      refine HReg2.out _ _ rfl rfl rfl ?_
      intro vals w7 hG h63 h67
      unfold IsV at h63 h67
      simp only [putD, Act.put, List.setIfInBounds_toArray, List.set_cons_zero, List.set_cons_succ, h63, h67]
      rw [← HW6.out] at hG
      have HC7 := Lib.hid (And.intro (H6.out.1.below hG) hG)
      clear h63 h67 hG HReg2 x5' x6' e0 e2 f2
      go_wp2_with (refine wp_delK rfl (.tmp 63) (.tmp 67) rfl rfl HC7.out.1.map (kx, ky) rfl HKK.out.2 ?_; intro w8 hm8 hk8; have HM8 := Lib.hid (And.intro hm8 (hk8.more (S' := fun q => q = mb) (fun q e => by injection e with e; exact e.symm))); clear hm8 hk8)
      have h8 := HC7.out.1.dropK h1 hh HFu.out (by rw [← HF.out, ← HKK.out.1]; exact HM8.out.1) HM8.out.2
      obtain ⟨y0, y1, _, y3, y4, _, _⟩ := h8.cells hh
      rw [← HF.out, ← HKK.out.1] at y0 y1
      rw [← HF.out, ← HX.out.2.2.2.2] at y3
      rw [← HF.out] at y4
      simp only at y0 y1
      have hb8 : Kept (Cx g fb mb) w w8 := HZ6.out.2.trans ((Kept.of_below HC7.out.2 _).trans (HM8.out.2.more (fun q e => .inr (.inr e))))
      have hz8 : Bk w8 w.heap.size 32 outC := HM8.out.2.bk (HZ6.out.1.below HC7.out.2 H6.out.2) (fun e => HNE.out.1.2.2 e)
      have hwf : w8.cell? ⟨fb, h1 * 7, none⟩ = some (.int .i64 kx) ∧ w8.cell? ⟨fb, h1 * 7 + 1, none⟩ = some (.int .i64 ky) ∧ w8.cell? ⟨fb, h1 * 7 + 3, none⟩ = some (.slice f.A n3 f.c) ∧ w8.cell? ⟨fb, h1 * 7 + 4, none⟩ = some (.bool f.dirty) := ⟨y0, y1, y3, y4⟩
      have H8 := Lib.hid (And.intro h8 (And.intro hb8 (And.intro hz8 hwf)))
      clear h8 y0 y1 y3 y4 hb8 hz8 hwf
      go_wp2_with fail
      refine region_by_spineV 15 [14, 15, 16] [(0, 68, .int .i64 h1), (1, 69, .pointer (some ⟨fb, h1 * 7, none⟩)), (2, 70, .pointer (some ⟨fb, h1 * 7, none⟩)), (3, 71, .pointer (some ⟨fb, h1 * 7, none⟩)), (4, 72, .agg #[.int .i64 kx, .int .i64 ky]), (5, 73, .pointer (some ⟨fb, h1 * 7, none⟩)), (6, 74, .pointer (some ⟨fb, h1 * 7, none⟩)), (7, 75, .pointer (some ⟨fb, h1 * 7 + 3, none⟩)), (8, 76, .slice f.A n3 f.c), (9, 77, .pointer (some ⟨fb, h1 * 7, none⟩)), (10, 78, .pointer (some ⟨fb, h1 * 7, none⟩)), (11, 79, .pointer (some ⟨fb, h1 * 7 + 4, none⟩)), (12, 80, .bool f.dirty), (13, 81, .agg #[.int .i64 kx, .int .i64 ky, .slice f.A n3 f.c, .bool f.dirty, .bool true])]
        (fun W => W.cell? ⟨fb, h1 * 7, none⟩ = some (.int .i64 kx) ∧ W.cell? ⟨fb, h1 * 7 + 1, none⟩ = some (.int .i64 ky) ∧ W.cell? ⟨fb, h1 * 7 + 3, none⟩ = some (.slice f.A n3 f.c) ∧ W.cell? ⟨fb, h1 * 7 + 4, none⟩ = some (.bool f.dirty)) (by kernel_rfl) (by kernel_rfl) (by kernel_rfl) (by kernel_rfl) (by kernel_rfl) (by kernel_rfl) (by kernel_rfl) H8.out.2.2.2 ?_ ?_
      · intro y hy V ρ hV hρ hcst
        obtain ⟨k1, k2, k3, k4⟩ := hV
        have e6 : ρ (.tmp 6) = .int .i64 h1 := (hρ 6).trans (by kernel_rfl)
        have e7 : ρ (.tmp 7) = .pointer (some ⟨fb, h1 * 7, none⟩) := (hρ 7).trans (by kernel_rfl)
        have e68 : ρ (.tmp 68) = .int .i64 h1 := (hρ 68).trans (by kernel_rfl)
        have e69 : ρ (.tmp 69) = .pointer (some ⟨fb, h1 * 7, none⟩) := (hρ 69).trans (by kernel_rfl)
        have e70 : ρ (.tmp 70) = .pointer (some ⟨fb, h1 * 7, none⟩) := (hρ 70).trans (by kernel_rfl)
        have e71 : ρ (.tmp 71) = .pointer (some ⟨fb, h1 * 7, none⟩) := (hρ 71).trans (by kernel_rfl)
        have e72 : ρ (.tmp 72) = .agg #[.int .i64 kx, .int .i64 ky] := (hρ 72).trans (by kernel_rfl)
        have e73 : ρ (.tmp 73) = .pointer (some ⟨fb, h1 * 7, none⟩) := (hρ 73).trans (by kernel_rfl)
        have e74 : ρ (.tmp 74) = .pointer (some ⟨fb, h1 * 7, none⟩) := (hρ 74).trans (by kernel_rfl)
        have e75 : ρ (.tmp 75) = .pointer (some ⟨fb, h1 * 7 + 3, none⟩) := (hρ 75).trans (by kernel_rfl)
        have e76 : ρ (.tmp 76) = .slice f.A n3 f.c := (hρ 76).trans (by kernel_rfl)
        have e77 : ρ (.tmp 77) = .pointer (some ⟨fb, h1 * 7, none⟩) := (hρ 77).trans (by kernel_rfl)
        have e78 : ρ (.tmp 78) = .pointer (some ⟨fb, h1 * 7, none⟩) := (hρ 78).trans (by kernel_rfl)
        have e79 : ρ (.tmp 79) = .pointer (some ⟨fb, h1 * 7 + 4, none⟩) := (hρ 79).trans (by kernel_rfl)
        have e80 : ρ (.tmp 80) = .bool f.dirty := (hρ 80).trans (by kernel_rfl)
        have e81 : ρ (.tmp 81) = .agg #[.int .i64 kx, .int .i64 ky, .slice f.A n3 f.c, .bool f.dirty, .bool true] := (hρ 81).trans (by kernel_rfl)
        clear hρ
        simp only [List.mem_cons, List.not_mem_nil, or_false] at hy
        rcases hy with rfl | rfl | rfl | rfl | rfl | rfl | rfl | rfl | rfl | rfl | rfl | rfl | rfl | rfl
        all_goals
          refine ⟨_, rfl, ?_⟩
          go_simp
          try rfl
      simp only [putA, putD, Act.put, List.setIfInBounds_toArray, List.set_cons_zero, List.set_cons_succ]
      refine spineU_list rfl rfl rfl ?_
      go_wp2_with fail
      refine ⟨rfl, (by first | exact H8.out.2.2.2 | exact fun _ => H8.out.2.2.2), ?_⟩
      refine spineU_list rfl rfl rfl ?_
      refine wp_stR rfl 32 (.tmp 3) (.tmp 81) rfl w.heap.size #[.int .i64 kx, .int .i64 ky, .slice f.A n3 f.c, .bool f.dirty, .bool true] rfl rfl 32 outC H8.out.2.2.1 (by kernel_rfl) rfl (by simp [Value.oneCell']) ?_
      intro w9 k9 b9 o9
      have HO9 := Lib.hid o9
      clear b9 o9
      have hc9 : CaAt w9 g fb mb N fs1 h2 (delK tb fs1[h1].k) (some h1) := H8.out.1.keptS (Kept.trans (Kept.of_below (Gw.drew w8) _) HO9.out) (fun e => HNE.out.1.1 e.symm) (fun e => HNE.out.1.2.1 e.symm) (fun e => HNE.out.1.2.2 e.symm) (fun f2 hf2 a e hb => hlo.out f2 hf2 a e hb)
      have HE := Lib.hid (And.intro hc9 ((H8.out.2.1.trans (Kept.of_below (Gw.drew w8) _)).newer HO9.out (Nat.le_refl _)))
      have hw9 : w9.cell? ⟨fb, h1 * 7, none⟩ = some (.int .i64 kx) ∧ w9.cell? ⟨fb, h1 * 7 + 1, none⟩ = some (.int .i64 ky) ∧ w9.cell? ⟨fb, h1 * 7 + 3, none⟩ = some (.slice f.A n3 f.c) ∧ w9.cell? ⟨fb, h1 * 7 + 4, none⟩ = some (.bool f.dirty) := by
        obtain ⟨y0, y1, _, y3, y4, _, _⟩ := hc9.cells hh
        rw [← HF.out, ← HKK.out.1] at y0 y1
        rw [← HF.out, ← HX.out.2.2.2.2] at y3
        rw [← HF.out] at y4
        exact ⟨y0, y1, y3, y4⟩
      have HW9 := Lib.hid hw9
      clear hc9 hw9
      refine ⟨rfl, (by first | exact HW9.out | exact fun _ => HW9.out), ?_⟩
      refine spineU_list rfl rfl rfl ?_
      go_wp2_with fail
      refine ⟨rfl, (by first | exact HW9.out | exact fun _ => HW9.out | trivial), ?_⟩
      unfold SpineU
      go_wp2_with fail
      refine bodyPost_ret (v := .tuple #[.int .i64 h1, .agg #[.int .i64 kx, .int .i64 ky, .slice f.A n3 f.c, .bool f.dirty, .bool true], .int .i64 0]) (room_res rfl k9 rfl rfl rfl) rfl ⟨hh, ?_, ?_, HE.out.2⟩
      · show _ = Ending.returned (.tuple #[.int .i64 h1, .agg #[.int .i64 fs1[h1].k.1, .int .i64 fs1[h1].k.2, .slice fs1[h1].A fs1[h1].b.length fs1[h1].c, .bool fs1[h1].dirty, .bool true], .int .i64 0])
        rw [← HF.out, ← HKK.out.1, ← HX.out.2.2.2.2]
      · rw [← HH2.out.1]; exact HE.out.1
    · rw [← HF.out] at q1
      have HQ := Lib.hid q2
      obtain ⟨P, hP⟩ : ∃ P, P = f.pins := ⟨_, rfl⟩
      rw [← hP] at x5 q1
      have p3 : (0 : Int) < (P : Int) := by omega
      clear q2 hP HCase x0 x1 x2 x3 x4 x6
      go_wp2_with fail
      go_roundg m
      case measure => omega
      case rel =>
        go_light
        exact ⟨fs1, h2, HQ, Lib.hid (by rw [← HW6.out]; exact H6.out.1), Lib.hid (by rw [← HW6.out]; exact HZ6.out.1), Lib.hid (by rw [← HW6.out]; exact HZ6.out.2), hlo, Lib.hid (by rw [← HW6.out]; exact H6.out.2)⟩
    · rw [← HF.out] at q1 q2
      have HQ := Lib.hid q3
      have x5' : (w5.setCell ⟨g, 2, none⟩ (.int .i64 h2)).cell? ⟨fb, h1 * 7 + 5, none⟩ = some (.int .i64 0) := by rw [x5, q1]; rfl
      have x6' : (w5.setCell ⟨g, 2, none⟩ (.int .i64 h2)).cell? ⟨fb, h1 * 7 + 6, none⟩ = some (.bool true) := by rw [x6, q2]
      have r6 := H6.out.1.fr.free (h1 * 7 + 6)
      rw [HW6.out] at r6
      obtain ⟨h7, k7⟩ := H6.out.1.st h1 hh 6 (by decide) (.bool false) { fs1[h1] with mrk := false } rfl rfl rfl (H6.out.1.dat hh) (H6.out.1.pl fs1[h1] (List.getElem_mem hh))
      have HE := Lib.hid (show CaAt (W6.setCell ⟨fb, h1 * 7 + 6, none⟩ (.bool false)) g fb mb N (fs1.set h1 { fs1[h1] with mrk := false }) h2 tb none ∧ Bk (W6.setCell ⟨fb, h1 * 7 + 6, none⟩ (.bool false)) w.heap.size 32 outC ∧ Kept (Cx g fb mb) w (W6.setCell ⟨fb, h1 * 7 + 6, none⟩ (.bool false)) ∧ (∀ f ∈ fs1.set h1 { fs1[h1] with mrk := false }, ∀ a, f.A = some a → f.b ≠ [] → a.block ≠ w.heap.size) ∧ w.heap.size < (W6.setCell ⟨fb, h1 * 7 + 6, none⟩ (.bool false)).heap.size from
        ⟨h7, k7.bk HZ6.out.1 (fun e => HNE.out.1.2.1 e), HZ6.out.2.trans ((Kept.set _ _ _ _).more (fun k e => .inr (.inl e))), fun f2 hf2 a e hb => by
          rcases List.mem_or_eq_of_mem_set hf2 with e2 | rfl
          · exact hlo.out f2 e2 a e hb
          · exact hlo.out fs1[h1] (List.getElem_mem hh) a e hb, by have := H6.out.2; simp only [World.size_setCell]; exact this⟩)
      rw [HW6.out] at HE
      clear q1 q2 q3 HCase x0 x1 x2 x3 x4 x5 x6 h7 k7
      go_wp2_with fail
      go_roundg m
      case measure => omega
      case rel =>
        go_light
        exact ⟨_, h2, HQ, Lib.hid HE.out.1, Lib.hid HE.out.2.1, Lib.hid HE.out.2.2.1, Lib.hid HE.out.2.2.2.1, Lib.hid HE.out.2.2.2.2⟩
end
end Go.Proofs.Ythmaofbnhfgfaaa
