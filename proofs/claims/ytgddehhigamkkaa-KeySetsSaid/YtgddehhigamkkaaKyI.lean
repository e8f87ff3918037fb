/- key.Set's Add and Remove, walked. Conditions: lengths. -/
import Derived.Test.YtgddehhigamkkaaKyH
namespace Go.Proofs.Ytgddehhigamkkaa
set_option linter.unusedVariables false
set_option linter.unusedSimpArgs false
open Go.RowKit Go.Maps
set_option maxHeartbeats 2000000
set_option maxRecDepth 100000
theorem sadd_c {B : Nat} {X : Nat → Prop} {w : World} {g : Nat} {m : List (Int × Int)} (h : SetX B X w g m) (hX : ∀ k, X k → k < w.heap.size) (hB : B ≤ w.heap.size) (A : Option Addr) (c : Nat) (ks : List (Int × Int)) (hr : KRd w w.heap.size A ks) (hA : ∀ ad, A = some ad → ks ≠ [] → ad.block < B ∨ X ad.block) (hw : ∀ k ∈ ks, kW k) (hks : ks.length ≤ 1000) (hm : m.length ≤ 100000) :
    Calls Try.prog 15 #[.pointer (some ⟨g, 0, none⟩), .slice A ks.length c] w (SxP B X w g (addL m ks) (.int .i64 ((addL m ks).length - m.length))) := by
  obtain ⟨n, hn⟩ : ∃ n, n = ks.length := ⟨_, rfl⟩
  rw [← hn]
  have HN := Lib.hid hn
  have HH := Lib.hid (And.intro hX (And.intro hB (And.intro hA (And.intro hw (And.intro hks hm)))))
  have HR := Lib.hid hr
  obtain ⟨mb, h1, h2⟩ := h
  have c0 := h1.blk.cell 0
  have hfz := h1.blk.free 0
  have hfzb := (h1.blk.alloc (.map #[] 0)).free 0
  have c4 := (h1.blk.alloc (.map #[] 0)).cell 0
  have hmm := @run_makeMap Try.prog
  have q1 : (n : Int) ≤ 1000 := by omega
  have H1 := Lib.hid h1
  have H2 := Lib.hid h2
  clear h1 h2 hr hX hB hA hw hks hm hn
  have heq : ∀ W, (binOp .eql 35 (.map mb) (.map none)).run Try.prog W = .ok (.bool mb.isNone) W := fun W => run_eql_map_nil W _ _ _ mb Try.underlying35
  go_enter Try.func15, Try.ntmps15
  go_upto_if 12 with fail
  go_cut [] from 8 to 41 (fun wx => ∃ b, Hid (SetAt wx g (some b) m) ∧ Hid (B ≤ g ∧ ¬ X g ∧ B ≤ b ∧ ¬ X b) ∧ Hid (Kept (fun k => B ≤ k ∧ ¬ X k) w wx))
  case first =>
    clear heq
    cases mb with
    | none =>
      have e : m = [] := H1.out.set
      go_wp2_with fail
      go_meet
      case rel =>
        have hlt := H1.out.blk.lt
        have hgg := H2.out g (.inl rfl)
        refine ⟨w.heap.size, Lib.hid ⟨?_, ?_⟩, Lib.hid ⟨hgg.1, hgg.2, HH.out.2.1, fun f => by have := HH.out.1 _ f; omega⟩, Lib.hid ?_⟩
        · exact ((H1.out.blk.alloc (.map #[] 0)).set 0 (.map (some w.heap.size)))
        · rw [e]
          exact (SetIs.made w).kept (Kept.set (w.alloc (.map #[] 0)) g 0 (.map (some w.heap.size))) (fun f => by omega)
        · exact (Kept.alloc _ w _).trans ((Kept.set _ g 0 _).more (fun k e => by rw [e]; exact hgg))
    | some b =>
      go_wp2_with fail
      go_meet
      case rel =>
        have hgg := H2.out g (.inl rfl)
        have hbb := H2.out b (.inr rfl)
        exact ⟨b, H1, Lib.hid ⟨hgg.1, hgg.2, hbb.1, hbb.2⟩, Lib.hid (Kept.refl _ _)⟩
  case rest =>
    obtain ⟨b, HS, HG, HK⟩ := hcut
    clear c0 hfz H1 H2 heq hfzb c4 hmm
    have d0 := HS.out.blk.cell 0
    have hlen := SetIs.len (w := wc) (b := b) (m := m) HS.out.set
    go_wp2_with fail
    go_loopw [7, 24] (fun _ i wr => ∃ j : Nat, j ≤ n ∧ i = .int .i64 j ∧ Hid (SetAt wr g (some b) (addL m (ks.take j))) ∧ Hid (Kept (fun k => B ≤ k ∧ ¬ X k) wc wr)) (fun _ i _ => n - (intOf i).toNat)
    case atStart => exact ⟨0, Nat.zero_le _, rfl, HS, Lib.hid (Kept.refl _ _)⟩
    case round =>
      obtain ⟨j, hj, rfl, hS, hK⟩ := hrel
      clear d0 hlen
      by_cases hlt : j < n
      · have p1 : (0 : Int) ≤ (j : Int) := by omega
        have p2 : (j : Int) < (n : Int) := by omega
        have hjl : j < ks.length := by rw [← HN.out]; exact hlt
        have hkk := HK.out.trans hK.out
        obtain ⟨ad, rfl, hab, c1, c2⟩ := (HR.out.kept hkk (fun ad e f => by rcases HH.out.2.2.1 ad e (fun h0 => by rw [h0] at hjl; cases hjl) with h | h; omega; exact f.2 h)) j hjl
        have hwk := HH.out.2.2.2.1 _ (List.getElem_mem hjl)
        have htk : ks.take (j + 1) = ks.take j ++ [ks[j]] := List.take_succ_eq_append_getElem hjl
        obtain ⟨x, hx⟩ : ∃ x, x = ks[j].1 := ⟨_, rfl⟩
        obtain ⟨y, hy⟩ : ∃ y, y = ks[j].2 := ⟨_, rfl⟩
        have hxy : ks[j] = (x, y) := Prod.ext hx.symm hy.symm
        rw [hxy] at htk hwk
        rw [← hx] at c1
        rw [← hy] at c2
        have HT := Lib.hid (And.intro htk hwk)
        have hsz : (addL m (ks.take j)).length ≤ 1000000 := by have h3 := (addL_len (ks.take j) m).2; rw [List.length_take] at h3; have := HH.out.2.2.2.2; omega
        have HZ := Lib.hid hsz
        have d0 := hS.out.blk.cell 0
        have hgl := hS.out.blk.lt
        have hbl := SetIs.lt hS.out.set
        have HL := Lib.hid (And.intro hgl hbl)
        clear hx hy hxy htk hwk hsz hkk hgl hbl hab
        go_wp2_with fail
        have hbox := Bk.new wr 23 #[.int .i64 x, .int .i64 y]
        have hal := Gw.alloc wr (.cells #[.int .i64 x, .int .i64 y] 23)
        refine sa_reg _ _ _ g b wr.heap.size x y (by simp; have := HL.out; omega) (by simp) ((hal.cell (p := ⟨g, 0, none⟩) HL.out.1).trans d0) hbox.two.1 hbox.two.2 rfl rfl rfl ?_
        intro vals w7 hG h31 h32 h33
        unfold IsV at h31 h32 h33
        simp only [putD, Act.put, List.setIfInBounds_toArray, List.set_cons_zero, List.set_cons_succ, h31, h32, h33]
        have hbb : Below wr.heap.size wr w7 := hal.trans (hG.mono hal.size)
        have HS7 := Lib.hid (hS.out.kept (Kept.of_below hbb (fun _ => False)) (fun f => f) (fun _ _ f => f))
        have HK7 := Lib.hid (hK.out.trans (Kept.of_below hbb _))
        clear h31 h32 h33 hbox hal hG hbb d0 c1 c2
        go_wp2_with (at_mapUpdate; refine wp_putK rfl (.tmp 31) (.tmp 32) (.tmp 33) rfl rfl HS7.out.set (x, y) rfl rfl HT.out.2 HZ.out ?_; intro w8 h8 k8; have HS8 := Lib.hid (show SetAt w8 g (some b) (addK (addL m (ks.take j)) (x, y)) from ⟨k8.bk HS7.out.blk (fun e => by injection e with e; have h5 := HS7.out.blk; rw [← e] at h5; obtain ⟨D, ⟨es, ck, hm, _⟩, _⟩ := HS7.out.set; unfold Bk at h5; rw [hm] at h5; cases h5), h8⟩); have HK8 := Lib.hid (HK7.out.trans (k8.more (fun k e => by injection e with e; rw [← e]; exact HG.out.2.2))); clear h8 k8)
        go_roundw
        case rel => exact ⟨j + 1, by omega, by go_num, Lib.hid (by rw [HT.out.1, addL_snoc]; exact HS8.out), HK8⟩
        case measure => (first | (simp [intOf]; done) | (simp [intOf]; omega))
      · obtain rfl : j = n := by omega
        have hS2 := hS.out
        rw [List.take_of_length_le (by rw [← HN.out]; omega)] at hS2
        have d0 := hS2.blk.cell 0
        have hlen := SetIs.len (w := wr) (b := b) (m := addL m ks) hS2.set
        have q4 : ((addL m ks).length : Int) ≤ 1000000 := by have := (addL_len ks m).2; have := HH.out.2.2.2.2; omega
        have q5 : (m.length : Int) ≤ 100000 := by have := HH.out.2.2.2.2; omega
        have HS2 := Lib.hid hS2
        obtain ⟨L1, hL1⟩ : ∃ L1, L1 = (addL m ks).length := ⟨_, rfl⟩
        obtain ⟨L0, hL0⟩ : ∃ L0, L0 = m.length := ⟨_, rfl⟩
        rw [← hL1] at hlen q4 ⊢
        rw [← hL0] at q5 ⊢
        have HLL := Lib.hid (And.intro hL1 hL0)
        clear hS2 hL1 hL0
        go_wp2_with fail
        go_ret
        refine ⟨by rw [← HLL.out.1, ← HLL.out.2]; rfl, ⟨some b, HS2.out, fun k e => by
          rcases e with rfl | e
          · exact ⟨HG.out.1, HG.out.2.1⟩
          · injection e with e; rw [← e]; exact HG.out.2.2⟩, HK.out.trans hK.out⟩
end Go.Proofs.Ytgddehhigamkkaa
