/- disk.Disk's sector and Read. Conditions: lengths. -/
import Derived.Test.YtfcbmdmkdjaoaaaDkE
namespace Go.Proofs.Ytfcbmdmkdjaoaaa
set_option linter.unusedVariables false
set_option linter.unusedSimpArgs false
open Go.RowKit Go.Maps
theorem flat2 {α : Type} (f : α → List Value) (h2 : ∀ x, (f x).length = 2) : ∀ (l : List α) (i j : Nat) (hi : i < l.length), j < 2 → (l.flatMap f)[i * 2 + j]? = (f l[i])[j]?
  | [], i, j, hi, _ => absurd hi (by simp)
  | x :: l, 0, j, hi, hj => by
    rw [List.flatMap_cons, Nat.zero_mul, Nat.zero_add, List.getElem?_append_left (by rw [h2]; exact hj)]
    rfl
  | x :: l, i + 1, j, hi, hj => by
    rw [List.flatMap_cons, List.getElem?_append_right (by rw [h2]; omega), h2, show (i + 1) * 2 + j - 2 = i * 2 + j from by omega]
    exact flat2 f h2 l i j (by simpa using hi) hj
/-- Element j of a row of pending writes. -/
theorem PRow.at_ {W : World} {A : Option Addr} {n c : Nat} {L : List PW} {D : Nat → Prop} (h : PRow W (.slice A n c) L D) (j : Nat) (hj : j < L.length) :
    ∃ ad Aj cj, A = some ad ∧ ad.block < W.heap.size ∧ (ad.add (j * 2)).block = ad.block ∧ W.cell? (ad.add (j * 2)) = some (.int .i64 L[j].1) ∧ W.cell? ⟨(ad.add (j * 2)).block, (ad.add (j * 2)).off + 1, none⟩ = some (.slice Aj L[j].2.length cj) ∧ Rd b8 W W.heap.size Aj L[j].2 ∧ L[j].2.length ≤ cj ∧ ∀ a, Aj = some a → D a.block := by
  obtain ⟨ds, h1, h2, h3⟩ := h
  rcases h2.2 with ⟨e, hn⟩ | ⟨q, cap, cur, e, _, hh, _, _, hs, ht⟩
  · omega
  · injection e with e1 e2 e3
    subst e1
    have hq : q < W.heap.size := (Array.getElem?_eq_some_iff.1 hh).1
    have hzl : (L.zip ds).length = L.length := by rw [List.length_zip, h1]; omega
    have hcell : ∀ i, i < 2 → W.cell? ⟨q, j * 2 + i, none⟩ = (pcells (L[j], ds[j]'(by omega)))[i]? := by
      intro i hi
      rw [cell_of_row W q _ cur _ _ hh]
      have h4 := flat2 pcells (fun x => rfl) (L.zip ds) j i (by omega) hi
      rw [← ht, List.getElem?_take_of_lt (by omega)] at h4
      rw [← Array.getElem?_toList, h4]
      simp
    obtain ⟨hr, hc, hD⟩ := h3 (L[j], ds[j]'(by omega)) (List.mem_iff_getElem.2 ⟨j, by omega, by simp⟩)
    have e0 : ((⟨q, 0, none⟩ : Addr).add (j * 2)) = ⟨q, j * 2, none⟩ := by unfold Addr.add; by_cases k : j * 2 = 0 <;> simp [k]
    refine ⟨⟨q, 0, none⟩, (ds[j]'(by omega)).1, (ds[j]'(by omega)).2, rfl, hq, by rw [e0], ?_, ?_, hr, hc, hD⟩
    all_goals rw [e0]
    · exact hcell 0 (by decide)
    · exact hcell 1 (by decide)
/-- What stands in a sector that is kept. -/
def secL (d : DK) (s : Nat) : List (BitVec 8) := (d.kept.drop (s * d.size)).take d.size
/-- What is read of a sector. -/
def curL (d : DK) (s : Nat) : List (BitVec 8) := if newF d.pend s = 0 then secL d s else (d.pend.getD (newF d.pend s - 1).toNat (0, [])).2
set_option maxHeartbeats 400000
set_option maxRecDepth 100000
section
variable {w : World} {g : Nat} {x : DX} {d : DK}
theorem DiskAt.room (h : DiskAt w g x d) {s : Nat} (hs : s < d.secs) : s * d.size + d.size ≤ d.kept.length ∧ d.kept.length ≤ x.kc ∧ x.kc ≤ maxLen ∧ d.kept.length ≤ 16777216 := by
  have h1 : (s + 1) * d.size ≤ d.secs * d.size := Nat.mul_le_mul_right _ hs
  rw [← h.kl, Nat.succ_mul] at h1
  have h4 : d.kept.length ≤ 16777216 := by
    have := h.kl
    have := Nat.mul_le_mul h.sc.2 h.sz.2
    omega
  rcases h.kept.2 with ⟨e, _⟩ | ⟨q, cap, cur, e, _, _, hnc, hcm, _⟩
  · cases e
  · injection e with _ _ e3
    subst e3
    exact ⟨h1, hnc, hcm, h4⟩
theorem secL_len (h : DiskAt w g x d) {s : Nat} (hs : s < d.secs) : (secL d s).length = d.size := by
  have := (h.room hs).1
  unfold secL; rw [List.length_take, List.length_drop]; omega
theorem dsec_rd (h : DiskAt w g x d) {s : Nat} (hs : s < d.secs) : Rd b8 w w.heap.size (some ⟨x.kb, s * d.size, none⟩) (secL d s) := by
  obtain ⟨h1, h2, _⟩ := h.room hs
  have hz := h.sz.1
  have k := h.kept.rd.cut (k := s * d.size) (cap := x.kc) h2
  rw [cut_some _ _ _ (by omega)] at k
  exact k.take _
theorem dsector_c (h : DiskAt w g x d) (s : Nat) (hs : s < d.secs) : Calls Try.prog 30 #[.pointer (some ⟨g, 0, none⟩), .agg #[.int .i64 s]] w fun e w' => e = .returned (.slice (some ⟨x.kb, s * d.size, none⟩) d.size (x.kc - s * d.size)) ∧ Below w.heap.size w w' := by
  obtain ⟨c0, c1, _⟩ := ((h.blk).alloc (.cells #[.int .i64 (s : Int)] 67)).eight
  have hg : g < (w.alloc (.cells #[.int .i64 (s : Int)] 67)).heap.size := by have := h.blk.lt; simp; omega
  have ch := (Bk.new w 67 #[.int .i64 (s : Int)]).cell 0
  obtain ⟨r1, r2, r3, r4⟩ := h.room hs
  obtain ⟨z1, z2⟩ := h.sz
  unfold maxLen at r3
  obtain ⟨S, hS⟩ : ∃ S, S = d.size := ⟨_, rfl⟩
  obtain ⟨o, ho⟩ : ∃ o, o = s * d.size := ⟨_, rfl⟩
  obtain ⟨L, hL⟩ : ∃ L, L = d.kept.length := ⟨_, rfl⟩
  rw [← hL] at c1 r1 r2 r4
  rw [← ho] at r1 ⊢
  rw [← hS] at c0 r1 z1 z2 ho ⊢
  have hso : (s : Int) * (S : Int) = (o : Int) := by rw [ho]; simp
  have HR := Lib.hid (fun Q a0 => dse_reg Q a0 _ g w.heap.size L S x.kc x.kb s o (L - o) (x.kc - o) hg c0 c1 (by simp) ch hso (by omega) (by omega) (by omega) (by omega) rfl rfl (by omega) (by omega) (by omega) (by omega) (by omega) (by omega) (by omega) (by omega))
  clear h hS ho hL r1 r2 r3 r4 z1 z2 c0 c1 ch hg hso hs
  go_enter Try.func30, Try.ntmps30
  go_wp2_with fail
  refine HR.out _ _ rfl rfl rfl ?_
  intro vals w1 hG h4
  unfold IsV at h4
  simp only [putD, Act.put, List.setIfInBounds_toArray, List.set_cons_zero, List.set_cons_succ, h4]
  have HG := Lib.hid ((Gw.alloc w _).trans (hG.mono (by simp)))
  clear h4 hG
  go_wp2_with fail
  go_ret
  exact ⟨rfl, HG.out⟩
theorem dread_off (h : DiskAt w g x d) (s : Int) (ho : d.off = true) : Calls Try.prog 12 #[.pointer (some ⟨g, 0, none⟩), .int .i64 s] w fun e w' => e = .returned (.tuple #[.slice none 0 0, .int .i64 7]) ∧ w' = w := by
  have c4 := h.blk.eight.2.2.2.2.1
  rw [ho] at c4
  clear h ho
  go_enter Try.func12, Try.ntmps12
  go_wp2_with fail
  go_ret2
  exact ⟨rfl, rfl⟩
theorem dread_bad (h : DiskAt w g x d) (s : Int) (ho : d.off = false) (hs : (decide (0 ≤ s) && decide (s < (d.secs : Int))) = false) : Calls Try.prog 12 #[.pointer (some ⟨g, 0, none⟩), .int .i64 s] w fun e w' => e = .returned (.tuple #[.slice none 0 0, .int .i64 1]) ∧ Below w.heap.size w w' := by
  have c4 := h.blk.eight.2.2.2.2.1
  rw [ho] at c4
  have HH := Lib.hid (dhas_c h s)
  rw [hs] at HH
  clear h ho hs
  go_enter Try.func12, Try.ntmps12
  go_wp2_with fail
  refine Calls.mono HH.out ?_
  rintro e w1 ⟨rfl, b1⟩
  have HB := Lib.hid b1
  clear b1
  go_wp2_with fail
  go_ret2
  exact ⟨rfl, HB.out⟩
/-- New bytes, and that all is well. -/
def NewQ (xs : List (BitVec 8)) (w : World) (e : Ending) (w' : World) : Prop := ∃ A c, e = .returned (.tuple #[.slice A xs.length c, .int .i64 0]) ∧ xs.length ≤ c ∧ Ow b8 5 w' w.heap.size (.slice A xs.length c) xs ∧ Below w.heap.size w w'
theorem dread_ok (h : DiskAt w g x d) (s : Nat) (ho : d.off = false) (hs : s < d.secs) : Calls Try.prog 12 #[.pointer (some ⟨g, 0, none⟩), .int .i64 s] w (NewQ (curL d s) w) := by
  have HH := Lib.hid (dhas_c h s)
  rw [show (decide ((0 : Int) ≤ (s : Int)) && decide ((s : Int) < (d.secs : Int))) = true from by simp; omega] at HH
  have H := Lib.hid h
  have c4 := h.blk.eight.2.2.2.2.1
  rw [ho] at c4
  have hwf : (Lit.int .i64 (s : Int)).wf = true := wfI (by omega) (by have := h.sc; omega)
  have HS := Lib.hid hs
  clear h hs ho
  rcases newF_at d.pend s with hz | ⟨j, hj, hf, hjs⟩
  · have hcur : curL d s = secL d s := by unfold curL; rw [if_pos hz]
    rw [hcur]
    have HLK := Lib.hid (fun W (hb : Below w.heap.size w W) => (H.out.below hb).map.look hwf)
    rw [hz] at HLK
    have HSE := Lib.hid (fun W (hb : Below w.heap.size w W) => dsector_c (H.out.below hb) s HS.out)
    have HRD := Lib.hid (fun W (hb : Below w.heap.size w W) => dsec_rd (H.out.below hb) HS.out)
    have hlen := secL_len H.out HS.out
    have HZ := Lib.hid H.out.sz
    obtain ⟨xs, hxs⟩ : ∃ xs, xs = secL d s := ⟨_, rfl⟩
    rw [← hxs] at hlen HRD ⊢
    unfold NewQ
    rw [hlen]
    have HLN := Lib.hid hlen
    clear hxs hlen hcur hz hwf
    go_enter Try.func12, Try.ntmps12
    go_wp2_with fail
    refine Calls.mono HH.out ?_
    rintro e w1 ⟨rfl, b1⟩
    have HB1 := Lib.hid b1
    have hlk := HLK.out w1 b1
    have c3 := (H.out.below b1).blk.eight.2.2.2.1
    clear b1 HLK
    go_wp2_with fail
    refine Calls.mono (HSE.out w1 HB1.out) ?_
    rintro e w2 ⟨rfl, b2⟩
    have HB2 := Lib.hid (HB1.out.trans (b2.mono HB1.out.size))
    have hc := clone_c xs _ (x.kc - s * d.size) w2 (HRD.out w2 HB2.out) (by have := HLN.out; have := HZ.out; omega)
    unfold NewP at hc
    rw [HLN.out] at hc
    have HC := Lib.hid hc
    clear b2 HSE hc hlk c3
    go_wp2_with fail
    refine Calls.mono HC.out ?_
    rintro e w3 ⟨A, c, rfl, hcc, hoo, hb⟩
    have HO := Lib.hid (And.intro hcc (And.intro (hoo.mono HB2.out.size) (HB2.out.trans (hb.mono HB2.out.size))))
    clear hcc hoo hb HC
    go_wp2_with fail
    go_ret2
    exact ⟨A, c, rfl, HO.out.1, HO.out.2.1, HO.out.2.2⟩
  · have hcur : curL d s = d.pend[j].2 := by
      unfold curL
      rw [if_neg (by omega), hf, show ((j : Int) + 1 - 1).toNat = j by omega, List.getD_eq_getElem?_getD, List.getElem?_eq_getElem hj]
      rfl
    rw [hcur]
    have HLK := Lib.hid (fun W (hb : Below w.heap.size w W) => (H.out.below hb).map.look hwf)
    rw [hf] at HLK
    have hlen := (H.out.pl _ (List.getElem_mem hj)).2
    have HAT := Lib.hid (fun W (hb : Below w.heap.size w W) => (H.out.below hb).pend.at_ j hj)
    have HZ := Lib.hid H.out.sz
    have q1 : (0 : Int) ≤ (j : Int) := by omega
    have q2 : (j : Int) < (d.pend.length : Int) := by omega
    have q3 : (d.pend.length : Int) ≤ 100000 := by have := H.out.lim.1; omega
    obtain ⟨xs, hxs⟩ : ∃ xs, xs = d.pend[j].2 := ⟨_, rfl⟩
    rw [← hxs] at hlen HAT ⊢
    unfold NewQ
    rw [hlen]
    rw [hlen] at HAT
    have HLN := Lib.hid hlen
    have HP := Lib.hid (fun W (hb : Below w.heap.size w W) => (H.out.below hb).blk.eight)
    obtain ⟨P, hP⟩ : ∃ P, P = d.pend.length := ⟨_, rfl⟩
    rw [← hP] at HP q2 q3
    clear hxs hlen hcur hf hjs hwf
    go_enter Try.func12, Try.ntmps12
    go_wp2_with fail
    refine Calls.mono HH.out ?_
    rintro e w1 ⟨rfl, b1⟩
    have HB1 := Lib.hid b1
    have hlk := HLK.out w1 b1
    obtain ⟨_, _, c2, c3, _⟩ := HP.out w1 b1
    obtain ⟨ad, Aj, cj, hA, hab, hab2, d1, d2, hrd, hcj, _⟩ := HAT.out w1 b1
    rw [hA] at c2
    have hc := clone_c xs Aj cj w1 hrd (by have := HLN.out; have := HZ.out; omega)
    unfold NewP at hc
    rw [HLN.out] at hc
    have HC := Lib.hid hc
    have tj : decide ((0 : Int) < (j : Int) + 1) = true := by first | (simp; done) | (simp; omega)
    clear b1 HLK HAT HP hA hrd hcj hc hab hab2 hP
    go_wp2_with fail
    refine Calls.mono HC.out ?_
    rintro e w3 ⟨A, c, rfl, hcc, hoo, hb⟩
    have HO := Lib.hid (And.intro hcc (And.intro (hoo.mono HB1.out.size) (HB1.out.trans (hb.mono HB1.out.size))))
    clear hcc hoo hb HC
    go_wp2_with fail
    go_ret2
    exact ⟨A, c, rfl, HO.out.1, HO.out.2.1, HO.out.2.2⟩
end
end Go.Proofs.Ytfcbmdmkdjaoaaa
