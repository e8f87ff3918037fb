/- cache.Cache's Dirty where at most one page is dirty. Conditions: lengths. -/
import Derived.Test.YthmaofbnhfgfaaaCmL
namespace Go.Proofs.Ythmaofbnhfgfaaa
set_option linter.unusedVariables false
set_option linter.unusedSimpArgs false
open Go.RowKit Go.Maps
set_option maxRecDepth 100000
set_option maxHeartbeats 8000000
def dkL (fs : List Fr) : List (Int × Int) := (fs.filter fun f => f.full && f.dirty).map Fr.k
theorem dkL_succ (fs : List Fr) (k : Nat) (h : k < fs.length) : dkL (fs.take (k + 1)) = dkL (fs.take k) ++ if (fs[k].full && fs[k].dirty) = true then [fs[k].k] else [] := by
  unfold dkL
  rw [List.take_succ_eq_append_getElem h, List.filter_append, List.map_append]
  congr 1
  cases e : (fs[k].full && fs[k].dirty) <;> simp [e]
theorem dkL_len (fs : List Fr) : (dkL fs).length ≤ fs.length := by
  unfold dkL
  rw [List.length_map]
  exact List.length_filter_le _ _
theorem rdk_one {w : World} {q : Nat} {E : TypeId} {kx ky : Int} (h : Bk w q E #[.int .i64 kx, .int .i64 ky]) : RdK w (some ⟨q, 0, none⟩) [(kx, ky)] := fun j u hu => by
  refine ⟨_, rfl, ?_⟩
  have hj : j < 2 := (List.getElem?_eq_some_iff.1 hu).1
  have e : ((⟨q, 0, none⟩ : Addr).add j) = ⟨q, j, none⟩ := by unfold Addr.add; split <;> simp_all
  rw [e, h.cell j, ← hu]
  rcases (show j = 0 ∨ j = 1 by omega) with rfl | rfl <;> rfl
section
variable {w : World} {g fb mb N : Nat} {fs : List Fr} {hand : Nat} {tb : Tk}
theorem those_c (h : CaAt w g fb mb N fs hand tb none) (hl : (dkL fs).length ≤ 1) : Calls Try.prog 18 #[.pointer (some ⟨g, 0, none⟩), .func (.func 19) #[] #[]] w fun e w' => ∃ A c, e = .returned (.slice A (dkL fs).length c) ∧ Below w.heap.size w w' := by
  have H := Lib.hid h
  have c0 := h.three.1
  have HN := Lib.hid (And.intro h.n (And.intro h.nl hl))
  have q1 : (N : Int) ≤ 64 := by have := h.nl; omega
  clear h hl
  go_enter Try.func18, Try.ntmps18
  go_wp2_with fail
  go_loopw [5, 13] (fun v i wr => ∃ k : Nat, k ≤ N ∧ i = .int .i64 k ∧ Hid (KR wr w.heap.size v (dkL (fs.take k))) ∧ Hid (Below w.heap.size w wr)) (fun _ i _ => N - (intOf i).toNat)
  case atStart => exact ⟨0, Nat.zero_le _, rfl, Lib.hid (KR.nil _ _), Lib.hid (Below.refl _ _)⟩
  case round =>
    obtain ⟨k, hk, rfl, hr, hB⟩ := hrel
    obtain ⟨A5, c5, rfl, _, _⟩ := hr.out.slice
    by_cases hlt : k < N
    · have p0 : (0 : Int) ≤ (k : Int) := by omega
      have p1 : (k : Int) < (N : Int) := by omega
      have hkl : k < fs.length := by rw [← HN.out.1]; exact hlt
      obtain ⟨x0, x1, x2, x3, x4, x5, x6⟩ := (H.out.below hB.out).cells hkl
      have HS := Lib.hid (dkL_succ fs k hkl)
      have HC := Lib.hid (fun W => dirty1_c W fs[k])
      rw [show fs[k].cs.toArray = #[.int .i64 fs[k].k.1, .int .i64 fs[k].k.2, .bool fs[k].full, .slice fs[k].A fs[k].b.length fs[k].c, .bool fs[k].dirty, .int .i64 fs[k].pins, .bool fs[k].mrk] from rfl] at HC
      obtain ⟨f, hf⟩ : ∃ f, f = fs[k] := ⟨_, rfl⟩
      rw [← hf] at x0 x1 x2 x3 x4 x5 x6 HC HS
      obtain ⟨⟨kx, ky⟩, full, b, dirty, pins, mrk, A, c⟩ := f
      simp only at x0 x1 x2 x3 x4 x5 x6 HC HS
      obtain ⟨bl, hbl⟩ : ∃ n, n = b.length := ⟨_, rfl⟩
      rw [← hbl] at x3 HC
      obtain ⟨M, hM⟩ : ∃ M, M = dkL (fs.take k) := ⟨_, rfl⟩
      rw [← hM] at HS hr ⊢
      have hMl : M.length ≤ 64 := by
        have := dkL_len (fs.take k)
        rw [← hM, List.length_take] at this
        have := HN.out
        omega
      obtain ⟨m, hm⟩ : ∃ m, m = M.length := ⟨_, rfl⟩
      rw [← hm] at hr ⊢
      have HM := Lib.hid (And.intro hm hMl)
      clear hf hbl hM hkl hm hMl
      cases full with
      | false =>
        have HE := Lib.hid (show dkL (fs.take (k + 1)) = M from by rw [HS.out]; simp)
        have HR2 := Lib.hid (hr.out.below (Gw.alloc wr (.cells #[.int .i64 kx, .int .i64 ky, .bool false, .slice A bl c, .bool dirty, .int .i64 pins, .bool mrk] 52)))
        have HB2 := Lib.hid (hB.out.trans ((Gw.alloc wr (.cells #[.int .i64 kx, .int .i64 ky, .bool false, .slice A bl c, .bool dirty, .int .i64 pins, .bool mrk] 52)).mono hB.out.size))
        clear hr hB HS HC
        go_wp2_with fail
        go_roundw
        case rel => exact ⟨k + 1, by omega, by go_num, by rw [HE.out]; exact HR2, HB2⟩
        case measure => (first | (simp [intOf]; done) | (simp [intOf]; omega))
      | true =>
        have hb1 := Gw.alloc wr (.cells #[.int .i64 kx, .int .i64 ky, .bool true, .slice A bl c, .bool dirty, .int .i64 pins, .bool mrk] 52)
        have HR1 := Lib.hid (hr.out.below hb1)
        have HB1 := Lib.hid (hB.out.trans (hb1.mono hB.out.size))
        have HK1 := Lib.hid (Bk.new wr 52 #[.int .i64 kx, .int .i64 ky, .bool true, .slice A bl c, .bool dirty, .int .i64 pins, .bool mrk])
        clear hr hB hb1
        go_wp2_with fail
        refine Calls.mono (HC.out _) ?_
        rintro e w2 ⟨rfl, b2⟩
        have HR2 := Lib.hid (HR1.out.below b2)
        have HB2 := Lib.hid (HB1.out.trans (b2.mono HB1.out.size))
        have hk2 := HK1.out.below b2 (by simp)
        have y0 : w2.cell? ⟨wr.heap.size, 0, none⟩ = some (.int .i64 kx) := hk2.cell 0
        have y1 : w2.cell? ⟨wr.heap.size, 1, none⟩ = some (.int .i64 ky) := hk2.cell 1
        clear b2 hk2 x0 x1 x2 x3 x4 x5 x6 HC HR1 HB1 HK1
        cases dirty with
        | false =>
          have HE := Lib.hid (show dkL (fs.take (k + 1)) = M from by rw [HS.out]; simp)
          clear HS
          go_wp2_with fail
          go_roundw
          case rel => exact ⟨k + 1, by omega, by go_num, by rw [HE.out]; exact HR2, HB2⟩
          case measure => (first | (simp [intOf]; done) | (simp [intOf]; omega))
        | true =>
          have HE := Lib.hid (show dkL (fs.take (k + 1)) = M ++ [(kx, ky)] from by rw [HS.out]; simp)
          have HR3 := Lib.hid (HR2.out.below (Gw.alloc w2 (.cells #[.int .i64 kx, .int .i64 ky] 29)))
          have HB3 := Lib.hid (HB2.out.trans ((Gw.alloc w2 (.cells #[.int .i64 kx, .int .i64 ky] 29)).mono HB2.out.size))
          have HK3 := Lib.hid (Bk.new w2 29 #[.int .i64 kx, .int .i64 ky])
          clear HS
          have HRD := Lib.hid (rdk_one HK3.out)
          have HSZ := Lib.hid (show w.heap.size ≤ (w2.alloc (.cells #[.int .i64 kx, .int .i64 ky] 29)).heap.size from HB3.out.size)
          have HLN := Lib.hid (show M.length + [(kx, ky)].length ≤ 100000 from by have := HM.out.2; simp; omega)
          go_wp2_with (at_builtin; refine wp_appK rfl (.tmp 24) (.tmp 27) rfl rfl HR3.out (some ⟨w2.heap.size, 0, none⟩) 1 1 [(kx, ky)] rfl rfl HRD.out HLN.out HSZ.out ?_; intro v4 w4 h4 hb4 _ _; have H4 := Lib.hid (And.intro h4 (HB3.out.trans hb4)); clear h4 hb4)
          go_roundw
          case rel => exact ⟨k + 1, by omega, by go_num, Lib.hid (by rw [HE.out]; exact H4.out.1), Lib.hid H4.out.2⟩
          case measure => (first | (simp [intOf]; done) | (simp [intOf]; omega))
    · obtain rfl : k = N := by omega
      have hall : fs.take k = fs := List.take_of_length_le (by rw [HN.out.1]; exact Nat.le_refl _)
      rw [hall] at hr ⊢
      have hr2 := hr.out.rdp
      have hA : A5 = none → dkL fs = [] := fun e => by
        rcases hr.out.form with ⟨_, e2⟩ | ⟨q, c', e2, _⟩
        · exact e2
        · injection e2 with e2; rw [e] at e2; cases e2
      rcases (show (dkL fs).length = 0 ∨ (dkL fs).length = 1 by have := HN.out.2.2; omega) with e0 | e0
      · have HSo := Lib.hid (sorted0_c wr A5 c5 (dkL fs) e0.symm hr2 hA)
        have HE0 := Lib.hid e0
        rw [e0]
        clear hr hr2 hA e0 hall hlt
        go_wp2_with fail
        refine Calls.mono HSo.out ?_
        rintro e w7 ⟨A2, c2, rfl, b7⟩
        have HB7 := Lib.hid (hB.out.trans (b7.mono hB.out.size))
        clear b7 HSo
        go_wp2_with fail
        go_ret
        exact ⟨A2, c2, by rw [HE0.out]; rfl, HB7.out⟩
      · have HSo := Lib.hid (sorted1_c wr A5 c5 (dkL fs) e0.symm hr2 hA)
        have HE0 := Lib.hid e0
        rw [e0]
        clear hr hr2 hA e0 hall hlt
        go_wp2_with fail
        refine Calls.mono HSo.out ?_
        rintro e w7 ⟨A2, c2, rfl, b7⟩
        have HB7 := Lib.hid (hB.out.trans (b7.mono hB.out.size))
        clear b7 HSo
        go_wp2_with fail
        go_ret
        exact ⟨A2, c2, by rw [HE0.out]; rfl, HB7.out⟩
theorem dirty_c (h : CaAt w g fb mb N fs hand tb none) (n : Nat) (hn : n = (dkL fs).length) (hl : n ≤ 1) : Calls Try.prog 14 #[.pointer (some ⟨g, 0, none⟩)] w fun e w' => ∃ A c, e = .returned (.slice A n c) ∧ Below w.heap.size w w' := by
  have HT := Lib.hid (those_c h (by omega))
  rw [← hn] at HT
  clear h hn hl
  go_enter Try.func14, Try.ntmps14
  go_wp2_with fail
  refine Calls.mono HT.out ?_
  rintro e w2 ⟨A, c, rfl, b2⟩
  have HB := Lib.hid b2
  clear b2 HT
  go_wp2_with fail
  go_ret
  exact ⟨A, c, rfl, HB.out⟩
end
end Go.Proofs.Ythmaofbnhfgfaaa
