/- disk.Disk's settle, as Cut calls it. Conditions: lengths. -/
import Derived.Test.YtfcbmdmkdjaoaaaDkH
namespace Go.Proofs.Ytfcbmdmkdjaoaaa
set_option linter.unusedVariables false
set_option linter.unusedSimpArgs false
open Go.RowKit Go.Maps
set_option maxHeartbeats 400000
set_option maxRecDepth 100000
theorem dcut1_c (w : World) (cb : Nat) (kA : Option Addr) (kp : List Bool) (kn kc : Nat) (hkn : kn = kp.length) (hcb : w.cell? ⟨cb, 0, none⟩ = some (.slice kA kn kc)) (hkr : Rd boV w w.heap.size kA kp) (hkl : kn ≤ 100000) (k : Nat) :
    Calls Try.prog 34 #[.int .i64 k, .pointer (some ⟨cb, 0, none⟩)] w fun e w' => e = .returned (.bool (kp.getD k false)) ∧ w' = w := by
  have q1 : (kn : Int) ≤ 100000 := by omega
  have q2 : (0 : Int) ≤ (k : Int) := by omega
  by_cases hlt : k < kn
  · have hl : k < kp.length := by rw [← hkn]; exact hlt
    obtain ⟨ad, rfl, hab, hc⟩ := hkr k hl
    have hg : kp.getD k false = kp[k] := by rw [List.getD_eq_getElem?_getD, List.getElem?_eq_getElem hl]; rfl
    rw [hg]
    unfold boV at hc
    obtain ⟨b, hb⟩ : ∃ b, b = kp[k] := ⟨_, rfl⟩
    rw [← hb] at hc ⊢
    have q3 : (k : Int) < (kn : Int) := by omega
    clear hb hg hab hkr hkn hl
    go_enter Try.func34, Try.ntmps34
    go_wp2
    go_ret
    exact ⟨rfl, rfl⟩
  · have hg : kp.getD k false = false := by rw [List.getD_eq_getElem?_getD, List.getElem?_eq_none (by omega)]; rfl
    rw [hg]
    clear hg hkr hkn
    go_enter Try.func34, Try.ntmps34
    go_wp2
    go_ret
    exact ⟨rfl, rfl⟩
theorem Kept.rde {α : Type} {f : α → Value} {S : Nat → Prop} {w w' : World} {A : Option Addr} {xs : List α} (h : Kept S w w') (hr : Rd f w w.heap.size A xs) (hn : ∀ a, A = some a → xs ≠ [] → ¬ S a.block) : Rd f w' w'.heap.size A xs := by
  cases xs with
  | nil => exact Rd.nil
  | cons y ys => exact h.rd hr (fun a e => hn a e (by simp))
section
variable {w : World} {g : Nat} {x : DX} {d : DK}
theorem dsettle_cut (h : DiskAt w g x d) (cb : Nat) (kA : Option Addr) (kp : List Bool) (kn kc : Nat) (hkn : kn = kp.length) (hcb : w.cell? ⟨cb, 0, none⟩ = some (.slice kA kn kc)) (hcl : cb < w.heap.size) (hcm : ¬ Md g x cb) (hkr : Rd boV w w.heap.size kA kp) (hkm : ∀ a, kA = some a → kp ≠ [] → ¬ Md g x a.block) (hkl : kn ≤ 100000) : Calls Try.prog 31 #[.pointer (some ⟨g, 0, none⟩), .func (.func 34) #[] #[.pointer (some ⟨cb, 0, none⟩)]] w fun e w' => e = .returned (.tuple #[]) ∧ DiskAt w' g { x with pA := none, pc := 0 } { d with kept := layL d.size (fun i => kp.getD i false) d.pend 0 d.kept, pend := [] } ∧ Kept (Md g x) w w' := by
  have HA := Lib.hid (fun W (hk : Kept (Md g x) w W) (k : Nat) => dcut1_c W cb kA kp kn kc hkn ((hk.cell (p := ⟨cb, 0, none⟩) hcl hcm).trans hcb) (hk.rde hkr hkm) hkl k)
  clear hcb hcl hcm hkr hkm hkn hkl
  have c2 := h.blk.eight.2.2.1
  have hP3 := h.lim.1
  have H := Lib.hid h
  obtain ⟨P, hP⟩ : ∃ P, P = d.pend.length := ⟨_, rfl⟩
  rw [← hP] at c2 hP3
  have HP := Lib.hid hP
  have q3 : (P : Int) ≤ 100000 := by omega
  clear h hP hP3
  go_enter Try.func31, Try.ntmps31
  go_wp2_with fail
  go_loopw [11] (fun i wr => ∃ k : Nat, k ≤ P ∧ i = .int .i64 k ∧ DiskAt wr g x (d.lay (layL d.size (fun i => kp.getD i false) (d.pend.take k) 0 d.kept)) ∧ Kept (Md g x) w wr) (fun i _ => P - (intOf i).toNat)
  case atStart => exact ⟨0, by omega, rfl, by rw [List.take_zero]; exact H.out, Kept.refl _ _⟩
  case round =>
    obtain ⟨k, hk, rfl, ht, hB⟩ := hrel
    by_cases hlt : k < P
    · have p1 : (0 : Int) ≤ (k : Int) := by omega
      have p2 : (k : Int) < (P : Int) := by omega
      have hkl : k < d.pend.length := by rw [← HP.out]; exact hlt
      obtain ⟨ad, Aj, cj, hA, hab, hab2, d1o, d2o, hrd, hcj, hDj⟩ := ht.pend.at_ k hkl
      have hA' : x.pA = some ad := hA
      rw [hA'] at c2 ⊢
      have HT := Lib.hid ht
      have HBB := Lib.hid hB
      have HD := Lib.hid (And.intro hA' (And.intro hab (And.intro hab2 (And.intro hrd (And.intro hcj hDj)))))
      obtain ⟨s, hs⟩ : ∃ s, s = d.pend[k].1 := ⟨_, rfl⟩
      obtain ⟨ys, hys⟩ : ∃ ys, ys = d.pend[k].2 := ⟨_, rfl⟩
      have d1 : wr.cell? (ad.add (k * 2)) = some (.int .i64 s) := by rw [hs]; exact d1o
      have hpl := H.out.pl _ (List.getElem_mem hkl)
      obtain ⟨n, hn⟩ : ∃ n, n = d.size := ⟨_, rfl⟩
      have d2 : wr.cell? ⟨(ad.add (k * 2)).block, (ad.add (k * 2)).off + 1, none⟩ = some (.slice Aj n cj) := by rw [hn, ← hpl.2]; exact d2o
      have hsn : layL d.size (fun i => kp.getD i false) (d.pend.take (k + 1)) 0 d.kept = if kp.getD k false then layA (layL d.size (fun i => kp.getD i false) (d.pend.take k) 0 d.kept) (s * n) ys else layL d.size (fun i => kp.getD i false) (d.pend.take k) 0 d.kept := by
        rw [List.take_succ_eq_append_getElem hkl, layL_snoc, hs, hn, hys, List.length_take, Nat.zero_add, Nat.min_eq_left (by omega)]
      have hsl : s < d.secs := by rw [hs]; exact hpl.1
      have hyl : ys.length = n := by rw [hys, hn]; exact hpl.2
      have hrd : Rd b8 wr wr.heap.size Aj ys := by rw [hys]; exact hrd
      obtain ⟨ks, hks⟩ : ∃ ks, ks = layL d.size (fun i => kp.getD i false) (d.pend.take k) 0 d.kept := ⟨_, rfl⟩
      have hksl : ks.length = d.kept.length := by rw [hks, layL_len d.size d.secs _ _ _ _ (fun p hp => H.out.pl p (List.mem_of_mem_take hp)) H.out.kl, H.out.kl]
      rw [← hks] at hsn
      have hb1 := Gw.alloc wr (.cells #[.int .i64 s, .slice Aj n cj] 70)
      have HT2 : Hid (DiskAt (wr.alloc (.cells #[.int .i64 s, .slice Aj n cj] 70)) g x (d.lay ks)) := by rw [hks]; exact ht.below hb1
      have HRD := Lib.hid (hrd.alloc (Nat.le_refl _) (.cells #[.int .i64 s, .slice Aj n cj] 70))
      have hk0 := Bk.new wr 70 #[.int .i64 s, .slice Aj n cj]
      have HREG := Lib.hid (fun Q a0 => dst_reg Q a0 _ g wr.heap.size s (s * n) n (x.kc - s * n) cj x.kb Aj (by simp) (hk0.cell 0) (hk0.cell 1) (Lib.hid (fun W hb => by
        have := dsector_c (HT2.out.below hb) s hsl
        rw [hn]; exact this)))
      clear ht hB hA hab hab2 hrd hcj hDj d1o d2o hks hb1 hk0 hs hys hpl
      have HAC := Lib.hid (HA.out _ (HBB.out.trans (Kept.alloc (Md g x) wr (.cells #[.int .i64 s, .slice Aj n cj] 70))) k)
      cases hkb : kp.getD k false with
      | true =>
        rw [hkb] at HAC
        rw [hkb, if_pos rfl] at hsn
        have HSN := Lib.hid (And.intro hsn (And.intro hyl (And.intro hksl (And.intro hsl hn))))
        clear hsn hyl hksl hsl hn hkb
        go_wp2_with fail
        refine Calls.mono HAC.out ?_
        rintro e w2 ⟨rfl, rfl⟩
        go_wp2_with fail
        refine HREG.out _ _ rfl rfl rfl ?_
        intro vals w3 hG h22 h24
        unfold IsV at h22 h24
        simp only [putD, Act.put, List.setIfInBounds_toArray, List.set_cons_zero, List.set_cons_succ, h22, h24]
        have HT3 := Lib.hid (HT2.out.below hG)
        have HR3 := Lib.hid ((HRD.out.below (hG.mono (by simp))).more (show wr.heap.size ≤ w3.heap.size by have := hG.size; simp at this; omega))
        have HB3 := Lib.hid (HBB.out.trans ((Kept.alloc (Md g x) wr _).trans (Kept.of_below hG _)))
        clear h22 h24 hG
        have hrm := HT3.out.room (s := s) HSN.out.2.2.2.1
        refine wp_lay one8.under (by kernel_rfl) b8_one rfl (.tmp 22) (.tmp 24) rfl 0 x.kb ks.length x.kc (s * n) n _ ks ys HSN.out.2.1 (by have := hrm.1; have e : (d.lay ks).size = n := HSN.out.2.2.2.2.symm; rw [e] at this; exact this) HT3.out.kept rfl Aj cj rfl HR3.out ?_
        intro w4 ho4 hg4
        have HO4 := Lib.hid (HT3.out.lay (layA ks (s * n) ys) (layA_len _ _ _ (by have := hrm.1; have e : (d.lay ks).size = n := HSN.out.2.2.2.2.symm; rw [e] at this; rw [HSN.out.2.1]; exact this)) ho4 hg4)
        have HK4 := Lib.hid (HB3.out.trans ((Kept.grown hg4).more (fun i e => by injection e with e; exact .inr (.inl e.symm))))
        clear ho4 hg4 hrm
        go_wp2_with fail
        go_roundw
        case rel => exact ⟨k + 1, by omega, by go_num, by rw [HSN.out.1]; exact HO4.out, HK4.out⟩
        case measure => (first | (simp [intOf]; done) | (simp [intOf]; omega))
      | false =>
        rw [hkb] at HAC
        rw [hkb, if_neg (by decide)] at hsn
        have HSN := Lib.hid hsn
        clear hsn hyl hksl hsl hn hkb
        go_wp2_with fail
        refine Calls.mono HAC.out ?_
        rintro e w2 ⟨rfl, rfl⟩
        go_wp2_with fail
        go_roundw
        case rel => exact ⟨k + 1, by omega, by go_num, by rw [HSN.out]; exact HT2.out, HBB.out.trans (Kept.alloc (Md g x) wr _)⟩
        case measure => (first | (simp [intOf]; done) | (simp [intOf]; omega))
    · obtain rfl : k = P := by omega
      rw [List.take_of_length_le (by rw [← HP.out]; omega)] at ht
      obtain ⟨_, _, c2', c3, _⟩ := ht.blk.eight
      have hfz := ht.blk.free 2
      obtain ⟨ks, hks⟩ : ∃ ks, ks = layL d.size (fun i => kp.getD i false) d.pend 0 d.kept := ⟨_, rfl⟩
      rw [← hks] at ht
      have hb := ht.blk.set 2 (.slice none 0 0)
      have hk := Kept.set wr g 2 (.slice none 0 0)
      have hc3 : (wr.setCell ⟨g, 2, none⟩ (.slice none 0 0)).cell? ⟨g, 3, none⟩ = some (.map (some x.mb)) := hb.cell 3
      have HM := Lib.hid (ht.map.kept hk ht.n2)
      have HS := Lib.hid (And.intro hb hk)
      have HT := Lib.hid ht
      have HBB := Lib.hid hB
      have HKS := Lib.hid hks
      clear ht hB hb hk hks
      go_wp2_with (refine wp_clear_fn rfl (.tmp 33) rfl rfl HM.out ?_; intro w3 h3 k3; have H3 := Lib.hid h3; have K3 := Lib.hid k3; clear h3 k3)
      go_end0
      have hk3 := HS.out.2.more (S' := fun i => i = g ∨ i = x.mb) (fun i e => .inl e)
      have hk4 := hk3.trans (K3.out.more (fun i e => by injection e with e; exact .inr e.symm))
      refine ⟨rfl, HKS.out ▸ HT.out.noPend (n0 := 0) (K3.out.bk HS.out.1 (fun e => by injection e with e; exact HT.out.n2 e)) H3.out hk4, HBB.out.trans (hk4.more (fun i e => by rcases e with e | e; exact .inl e; exact .inr (.inr (.inl e))))⟩
end
end Go.Proofs.Ytfcbmdmkdjaoaaa
