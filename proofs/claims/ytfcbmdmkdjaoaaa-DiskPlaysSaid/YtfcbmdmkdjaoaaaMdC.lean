/- The cut of the document's disk (loamlaw3.model): the walk. Conditions: the sectors are there. -/
import Derived.Test.YtfcbmdmkdjaoaaaMdB
namespace Go.Proofs.Ytfcbmdmkdjaoaaa
set_option linter.unusedVariables false
set_option linter.unusedSimpArgs false
open Go.RowKit Go.Maps
set_option maxRecDepth 100000
set_option maxHeartbeats 8000000
theorem mcut_c {w : World} {g : Nat} {x : ModX} {m : Mod} (h : MdAt w g x m) (hn0 : 0 < m.kept.length) (hn : m.kept.length ≤ 16384) (hw : m.wait.length ≤ 1000000) (hsec : ∀ k (hk : k < m.wait.length), m.wait[k].1 < m.kept.length) (eA : Option Addr) (kp : List Bool) (ec : Nat) (hkp : Rd boV w w.heap.size eA kp) (hkn : kp.length ≤ 100000) :
    Calls Try.prog 15 #[.pointer (some ⟨g, 0, none⟩), .slice eA kp.length ec] w fun e w' => e = .returned (.tuple #[]) ∧ (∃ q c, w.heap.size ≤ q ∧ MdAt w' g { x with kA := some ⟨q, 0, none⟩, kc := c, wA := none, wc := 0 } (m.cut kp)) ∧ Kept (fun k => k = g) w w' := by
  obtain ⟨n, hnn⟩ : ∃ n, n = m.kept.length := ⟨_, rfl⟩
  obtain ⟨NW, hNW⟩ : ∃ n, n = m.wait.length := ⟨_, rfl⟩
  obtain ⟨NK, hNK⟩ : ∃ n, n = kp.length := ⟨_, rfl⟩
  rw [← hNK]
  have H := Lib.hid h
  have HN := Lib.hid (show n = m.kept.length ∧ 0 < n ∧ n ≤ 16384 from ⟨hnn, by omega, by omega⟩)
  have HM := Lib.hid (show NW = m.wait.length ∧ NW ≤ 1000000 from ⟨hNW, by omega⟩)
  have HK := Lib.hid (show NK = kp.length ∧ NK ≤ 100000 ∧ Rd boV w w.heap.size eA kp from ⟨hNK, by omega, hkp⟩)
  have HS := Lib.hid hsec
  obtain ⟨c0, c1, c2, c3, c4, c5, c6, c7⟩ := (h.blk.alloc (.cells #[] 9)).eight
  rw [← hnn] at c1
  rw [← hNW] at c2
  clear h hn0 hn hw hsec hkp hkn hnn hNW hNK
  have HE := Lib.hid (ow_empty stV 9 w w.heap.size (Nat.le_refl _))
  have HB := Lib.hid ((Below.refl w.heap.size w).alloc (Nat.le_refl _) (.cells #[] 9))
  go_enter Try.func15, Try.ntmps15
  go_wp2_with (at_builtin; refine wp_app oneSt (fun _ => rfl) rfl (.tmp 6) (.tmp 10) rfl w.heap.size _ [] rfl HE.out x.kA n x.kc m.kept rfl HN.out.1 w.heap.size (H.out.kept.below HB.out) (by have := HN.out.1; have := HN.out.2.2; simp; omega) (by decide) HB.out.size ?_; intro v1 w1 ho1 hb1 _ _; clear c0 c1 c2 c3 c4 c5 c6 c7)
  rw [List.nil_append] at ho1
  obtain ⟨q, c, rfl, hq⟩ := ho1.head_ (by have := HN.out; omega)
  rw [← HN.out.1] at ho1 ⊢
  have HO := Lib.hid (And.intro ho1 (HB.out.trans hb1))
  have HQ := Lib.hid hq
  clear ho1 hb1 hq HE HB
  go_loopw [5] (fun i wr => ∃ k : Nat, k ≤ NW ∧ i = .int .i64 k ∧ Ow stV 9 wr w.heap.size (.slice (some ⟨q, 0, none⟩) n c) (cutK kp m.wait m.kept k) ∧ Below w.heap.size w wr) (fun i _ => NW - (Go.RowKit.intOf i).toNat)
  case atStart => exact ⟨0, by omega, rfl, HO.out.1, HO.out.2⟩
  case round =>
    obtain ⟨k, hk, rfl, ho, hb⟩ := hrel
    have HR := Lib.hid (And.intro ho hb)
    have hlg : g < w.heap.size := H.out.blk.lt
    obtain ⟨c0, c1, c2, c3, c4, c5, c6, c7⟩ := (H.out.blk.below hb hlg).eight
    rw [← HM.out.1] at c2
    clear ho hb HO
    by_cases hlt : k < NW
    · have pk : (k : Int) < (NW : Int) := by omega
      have pk0 : (0 : Int) ≤ (k : Int) := by omega
      have pk3 : (k : Int) ≤ 1000000 := by have := HM.out.2; omega
      have hkl : k < m.wait.length := by rw [← HM.out.1]; exact hlt
      have HYS := HS.out k hkl
      have HG := Lib.hid (show m.wait.getD k (0, []) = m.wait[k] from by rw [List.getD_eq_getElem?_getD, List.getElem?_eq_getElem hkl]; rfl)
      obtain ⟨ad2, hA2, hb2, e0, e1⟩ := H.out.wait k hkl
      obtain ⟨y, hy⟩ : ∃ y, y = m.wait[k] := ⟨_, rfl⟩
      rw [← hy] at e0 e1 HYS HG
      obtain ⟨ys, yb⟩ := y
      have HEE := Lib.hid (show ys < n ∧ x.wA = some ad2 ∧ ad2.block < w.heap.size ∧ w.cell? (ad2.add (k * 2)) = some (.int .i64 ys) ∧ w.cell? ⟨(ad2.add (k * 2)).block, (ad2.add (k * 2)).off + 1, none⟩ = some (.string (strB yb)) from ⟨by rw [HN.out.1]; exact HYS, hA2, hb2, e0, e1⟩)
      clear hy hA2 hb2 e0 e1 HYS
      by_cases hki : k < NK ∧ kp.getD k false = true
      · obtain ⟨hki, hbt⟩ := hki
        have qk : (k : Int) < (NK : Int) := by omega
        have hkk : k < kp.length := by rw [← HK.out.1]; exact hki
        obtain ⟨ad3, hA3, hb3, e3⟩ := HK.out.2.2 k hkk
        have hbv : kp[k] = true := by rw [List.getD_eq_getElem?_getD, List.getElem?_eq_getElem hkk] at hbt; exact hbt
        rw [hbv] at e3
        subst hA3
        have e3' : wr.cell? (ad3.add k) = some (.bool true) := (HR.out.2.cell (by rw [add_block]; exact hb3)).trans e3
        have HNX := Lib.hid (show cutK kp m.wait m.kept (k + 1) = (cutK kp m.wait m.kept k).set ys yb from by rw [cutK, if_pos hbt, HG.out])
        clear hki hbt hb3 e3 hbv hkk hkl
        go_wp2_with fail
        refine mc5 _ _ _ g q n c k NW x.wc ys undef undef undef undef undef undef ad2 yb hlt HEE.out.1 (Lib.hid (by rw [← HEE.out.2.1]; exact c2)) (Lib.hid ((HR.out.2.cell (by rw [add_block]; exact HEE.out.2.2.1)).trans HEE.out.2.2.2.1)) (Lib.hid ((HR.out.2.cell (p := ⟨(ad2.add (k * 2)).block, (ad2.add (k * 2)).off + 1, none⟩) (by show (ad2.add (k * 2)).block < _; rw [add_block]; exact HEE.out.2.2.1)).trans HEE.out.2.2.2.2)) (Lib.hid (by have := HR.out.2.size; have := HEE.out.2.2.1; omega)) ?_ ?_ ?_ ?_ ?_
        iterate 4 (· rfl)
        intro vals w2 hG h47 h48
        unfold IsV at h47 h48
        simp only [putD, Act.put, List.setIfInBounds_toArray, List.set_cons_zero, List.set_cons_succ, h47, h48]
        have HR2 := Lib.hid (show Ow stV 9 w2 w.heap.size (.slice (some ⟨q, 0, none⟩) n c) (cutK kp m.wait m.kept k) ∧ Below w.heap.size w w2 from ⟨HR.out.1.below hG, HR.out.2.trans (hG.mono HR.out.2.size)⟩)
        have hysl : ys < (cutK kp m.wait m.kept k).length := by rw [cutK_len, ← HN.out.1]; exact HEE.out.1
        have z0 : w2.cell? ⟨q, ys, none⟩ = some (.string (strB (cutK kp m.wait m.kept k)[ys])) := HR2.out.1.cell hysl
        have z1 := HR2.out.1.free ys
        have HNW := Lib.hid (show Ow stV 9 (w2.setCell ⟨q, ys, none⟩ (.string (strB yb))) w.heap.size (.slice (some ⟨q, 0, none⟩) n c) (cutK kp m.wait m.kept (k + 1)) ∧ Below w.heap.size w (w2.setCell ⟨q, ys, none⟩ (.string (strB yb))) from ⟨by rw [HNX.out]; exact HR2.out.1.set hysl yb, HR2.out.2.setCell HQ.out _⟩)
        obtain ⟨zz, hzz⟩ : ∃ z, z = (cutK kp m.wait m.kept k)[ys] := ⟨_, rfl⟩
        rw [← hzz] at z0
        clear h47 h48 hG hzz hysl c0 c1 c2 c3 c4 c5 c6 c7 e3'
        go_wp2_with fail
        go_roundw
        case rel => exact ⟨k + 1, by omega, by go_num, HNW.out.1, HNW.out.2⟩
        case measure => (first | (simp [Go.RowKit.intOf]; done) | (simp [Go.RowKit.intOf]; omega))
      · have HNX := Lib.hid (show cutK kp m.wait m.kept (k + 1) = cutK kp m.wait m.kept k from by
          rw [cutK]
          rw [if_neg]
          intro hbt
          by_cases hk2 : k < NK
          · exact hki ⟨hk2, hbt⟩
          · rw [List.getD_eq_getElem?_getD, List.getElem?_eq_none (by rw [← HK.out.1]; omega)] at hbt
            cases hbt)
        by_cases hk2 : k < NK
        · have qk : (k : Int) < (NK : Int) := by omega
          have hkk : k < kp.length := by rw [← HK.out.1]; exact hk2
          obtain ⟨ad3, hA3, hb3, e3⟩ := HK.out.2.2 k hkk
          have hbv : kp[k] = false := by
            cases hq : kp[k] with
            | false => rfl
            | true => exact absurd ⟨hk2, by rw [List.getD_eq_getElem?_getD, List.getElem?_eq_getElem hkk]; exact hq⟩ hki
          rw [hbv] at e3
          subst hA3
          have e3' : wr.cell? (ad3.add k) = some (.bool false) := (HR.out.2.cell (by rw [add_block]; exact hb3)).trans e3
          clear hki hk2 hb3 e3 hbv hkk hkl
          go_wp2_with fail
          go_roundw
          case rel => exact ⟨k + 1, by omega, by go_num, by rw [HNX.out]; exact HR.out.1, HR.out.2⟩
          case measure => (first | (simp [Go.RowKit.intOf]; done) | (simp [Go.RowKit.intOf]; omega))
        · have qk : ¬ (k : Int) < (NK : Int) := by omega
          have qk2 : (NK : Int) ≤ (k : Int) := by omega
          clear hki hk2 hkl
          go_wp2_with fail
          go_roundw
          case rel => exact ⟨k + 1, by omega, by go_num, by rw [HNX.out]; exact HR.out.1, HR.out.2⟩
          case measure => (first | (simp [Go.RowKit.intOf]; done) | (simp [Go.RowKit.intOf]; omega))
    · obtain rfl : k = NW := by omega
      clear hlt
      have HBK := Lib.hid (H.out.blk.below HR.out.2 hlg)
      have f1 := HBK.out.free 1
      have f2 := HBK.out.free 2
      have f3 := HBK.out.free 3
      have f4 := HBK.out.free 4
      have HF := Lib.hid (show ∀ W, W = (((wr.setCell ⟨g, 1, none⟩ (.slice (some ⟨q, 0, none⟩) n c)).setCell ⟨g, 2, none⟩ (.slice none 0 0)).setCell ⟨g, 3, none⟩ (.bool true)).setCell ⟨g, 4, none⟩ (.bool false) → (∃ q c, w.heap.size ≤ q ∧ MdAt W g { x with kA := some ⟨q, 0, none⟩, kc := c, wA := none, wc := 0 } (m.cut kp)) ∧ Kept (fun k => k = g) w W from by
        intro W hW
        have hk : Kept (fun k => k = g) w W := by
          rw [hW]
          exact ((((Kept.of_below HR.out.2 _).trans (Kept.set _ g 1 _)).trans (Kept.set _ g 2 _)).trans (Kept.set _ g 3 _)).trans (Kept.set _ g 4 _)
        have hqg : q ≠ g := by have := HQ.out; omega
        have hkw : Kept (fun k => k = g) wr W := by
          rw [hW]
          exact (((Kept.set _ g 1 _).trans (Kept.set _ g 2 _)).trans (Kept.set _ g 3 _)).trans (Kept.set _ g 4 _)
        have hlen : (m.cut kp).kept.length = n := by show (cutK kp m.wait m.kept _).length = n; rw [cutK_len, ← HN.out.1]
        have ho : Ow stV 9 W w.heap.size (.slice (some ⟨q, 0, none⟩) n c) (m.cut kp).kept := by
          have := hkw.ow HR.out.1 (fun k e => by injection e with e; show ¬ k = g; rw [← e]; exact hqg)
          have e2 : (m.cut kp).kept = cutK kp m.wait m.kept k := by show cutK kp m.wait m.kept m.wait.length = _; rw [← HM.out.1]
          rw [e2]; exact this
        refine ⟨⟨q, c, HQ.out, ⟨?_, ?_, fun k hk => absurd hk (by simp [Mod.cut]), hk.rde H.out.keep (fun a e e1 => H.out.apart.2.2 a e e1), ⟨fun a e => ?_, fun a e => (by cases e), H.out.apart.2.2⟩⟩⟩, hk⟩
        · rw [hlen, hW]
          exact (((HBK.out.set 1 _).set 2 _).set 3 _).set 4 _
        · rw [← hlen] at ho
          exact ho.rd
        · injection e with e; rw [← e]; exact hqg)
      go_wp2_with fail
      go_end0
      exact ⟨rfl, HF.out _ rfl⟩
end Go.Proofs.Ytfcbmdmkdjaoaaa
