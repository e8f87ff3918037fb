/- disk.Disk's Twin. Conditions: lengths. -/
import Derived.Test.YtfcbmdmkdjaoaaaDkN
import Derived.Test.YtfcbmdmkdjaoaaaLaid3
import Derived.Test.YtfcbmdmkdjaoaaaAppS
import Derived.Test.YtfcbmdmkdjaoaaaMdE
namespace Go.Proofs.Ytfcbmdmkdjaoaaa
set_option linter.unusedVariables false
set_option linter.unusedSimpArgs false
open Go.RowKit Go.Maps
set_option maxRecDepth 100000
set_option maxHeartbeats 8000000
theorem PRow.news {W : World} {q n c base : Nat} {E : TypeId} {l : List Value} (h : W.ownsRow base E 2 (.slice (some ⟨q, 0, none⟩) n c) n l) : ∀ j u, l[j]? = some u → W.cell? ((⟨q, 0, none⟩ : Addr).add j) = some u := World.ownsRow.cells h rfl
theorem flat_pcells_len : ∀ l : List (PW × (Option Addr × Nat)), (l.flatMap pcells).length = l.length * 2
  | [] => rfl
  | x :: l => by rw [List.flatMap_cons, List.length_append, flat_pcells_len l, List.length_cons]; show 2 + l.length * 2 = _; omega
theorem flat_pcells_one (l : List (PW × (Option Addr × Nat))) : ∀ u ∈ l.flatMap pcells, u.oneCell' = true := fun u hu => by
  obtain ⟨p, _, hp⟩ := List.mem_flatMap.1 hu
  unfold pcells at hp
  simp only [List.mem_cons, List.not_mem_nil, or_false] at hp
  rcases hp with rfl | rfl <;> rfl
theorem own_low {w : World} {base : Nat} {e : TypeId} {size : Nat} {v : Value} {n : Nat} {xs : List Value} (h : w.ownsRow base e size v n xs) : w.ownsRow 0 e size v n xs := by
  obtain ⟨h1, h2⟩ := h
  refine ⟨h1, ?_⟩
  rcases h2 with h2 | ⟨q, cap, cur, e1, hb, r⟩
  · exact .inl h2
  · exact .inr ⟨q, cap, cur, e1, Nat.zero_le _, r⟩
theorem PRow.weak {W : World} {v : Value} {L : List PW} {D D' : Nat → Prop} (h : PRow W v L D) (hD : ∀ k, D k → D' k) : PRow W v L D' := by
  obtain ⟨ds, h1, h2, h3⟩ := h
  exact ⟨ds, h1, h2, fun q hq => ⟨(h3 q hq).1, (h3 q hq).2.1, fun a e => hD _ ((h3 q hq).2.2 a e)⟩⟩
/-- slices.Clone of a row of pending writes. -/
theorem pclone_c (w : World) (A : Option Addr) (L : List PW) (n c : Nat) (hn : n = L.length) (D : Nat → Prop) (h : PRow w (.slice A n c) L D) (hl : n ≤ 100000) :
    Calls Try.prog 35 #[.slice A n c] w fun e w' => ∃ A2 c2, e = .returned (.slice A2 n c2) ∧ PRow w' (.slice A2 n c2) L D ∧ (∀ a, A2 = some a → w.heap.size ≤ a.block) ∧ Below w.heap.size w w' := by
  have hnl := fun (a : Option Addr) (n c : Nat) (W : World) => Lib.run_eql_slice_nil (P := Try.prog) W 61 70 a n c 0 0 (by kernel_rfl)
  rcases h.addr with ⟨rfl, rfl⟩ | ⟨q, rfl, hq⟩
  · have hn0 : n = 0 := hn
    subst hn0
    have HH := Lib.hid h
    clear h hn
    go_enter Try.func35, Try.ntmps35
    go_wp2
    go_ret
    obtain ⟨ds, h1, h2, h3⟩ := HH.out
    exact ⟨none, 0, rfl, ⟨[], rfl, ⟨by simp, .inl ⟨rfl, rfl⟩⟩, fun q h => by cases h⟩, fun a e => (by cases e), (by repeat (first | with_reducible assumption | with_reducible exact Below.refl _ _ | with_reducible apply bdN | with_reducible apply Below.drew | with_reducible refine Below.alloc ?_ (by simp) _ | with_reducible refine Below.setCell ?_ (by simp) _))⟩
  · subst hn
    obtain ⟨ds, h1, h2, h3⟩ := h
    have hzl : (L.zip ds).length = L.length := by rw [List.length_zip, h1]; omega
    obtain ⟨cs, hcs⟩ : ∃ cs, cs = (L.zip ds).flatMap pcells := ⟨_, rfl⟩
    have hcl : cs.length = L.length * 2 := by rw [hcs, flat_pcells_len, hzl]
    have hc1 : ∀ u ∈ cs, u.oneCell' = true := by rw [hcs]; exact flat_pcells_one _
    rw [← hcs] at h2
    obtain ⟨n, hn⟩ : ∃ n, n = L.length := ⟨_, rfl⟩
    rw [← hn] at h2 hl hcl ⊢
    have HN := Lib.hid (And.intro hn (And.intro h1 (And.intro hcs h3)))
    have HC := Lib.hid (And.intro hcl (And.intro hc1 hl))
    have H2 := Lib.hid h2
    have HE := Lib.hid (owns_empty2 w 70 w.heap.size (Nat.le_refl _))
    obtain ⟨i0, hi, hz0, hz1, hz2⟩ := info_parts infoW
    have HI := Lib.hid (And.intro hi (And.intro hz0 (And.intro hz1 hz2)))
    clear h1 h2 h3 hzl hcs hcl hc1 hl hn hi hz0 hz1 hz2
    go_enter Try.func35, Try.ntmps35
    go_wp2_with (at_builtin; refine wp_appR 2 i0 Try.underlying61 HI.out.1 HI.out.2.1 HI.out.2.2.1 HI.out.2.2.2 (by rfl) (by decide) rfl (.tmp 5) (.tmp 6) rfl w.heap.size _ 0 [] rfl HE.out ⟨q, 0, none⟩ n c cs rfl HC.out.1 (PRow.news (World.ownsRow.alloc H2.out _)) HC.out.2.1 (by have := HC.out.2.2; unfold maxLen; omega) (by have := HC.out.2.2; omega) (by simp) ?_; intro v1 w1 ho1 hb1 _ _)
    rw [List.nil_append, Nat.zero_add] at ho1
    obtain ⟨A4, c4, rfl, hc4⟩ : ∃ A4 c4, v1 = .slice A4 n c4 ∧ ∀ a, A4 = some a → w.heap.size ≤ a.block := by
      rcases ho1.2 with ⟨e, hn⟩ | ⟨q2, cap, cur, e, hb, _⟩
      · subst hn; exact ⟨none, 0, e, fun a e => by cases e⟩
      · exact ⟨_, _, e, fun a ea => by injection ea with ea; rw [← ea]; exact hb⟩
    go_ret
    obtain ⟨hn, h1, hcs, h3⟩ := HN.out
    have hbw : Below w.heap.size w w1 := (Gw.alloc w _).trans hb1
    refine ⟨A4, c4, rfl, ⟨ds, h1, by rw [← hn, ← hcs]; exact own_low ho1, fun p hp => ?_⟩, hc4, hbw⟩
    obtain ⟨e1, e2, e3⟩ := h3 p hp
    exact ⟨(e1.below hbw).more hbw.size, e2, e3⟩
/-- maps.Clone of a disk's map. -/
theorem mclone_c (w : World) (b n : Nat) (f : Int → Int) (h : MapFn w b n f) : Calls Try.prog 36 #[.map (some b)] w fun e w' => e = .returned (.map (some w.heap.size)) ∧ MapFn w' w.heap.size n f ∧ Below w.heap.size w w' := by
  obtain ⟨D, h1, h2⟩ := h
  have := AnyW.maps_Clone_owns cloneA 67 _ b n D w h1
  change Calls Try.prog 36 #[.map (some b)] w _ at this
  refine this.mono ?_
  rintro e w' ⟨rfl, e1, e2, e3⟩
  exact ⟨rfl, ⟨D, e1, h2⟩, e3⟩
section
variable {w : World} {g : Nat} {x : DX} {d : DK}
theorem dtwin_c (h : DiskAt w g x d) :
    Calls Try.prog 19 #[.pointer (some ⟨g, 0, none⟩)] w fun e w' => ∃ g2 x2, e = .returned (.pointer (some ⟨g2, 0, none⟩)) ∧ DiskAt w' g2 x2 d ∧ (∀ k, Md g2 x2 k → w.heap.size ≤ k) ∧ (∀ k, x2.D k → x.D k ∨ w.heap.size ≤ k) ∧ Below w.heap.size w w' := by
  have HCK := Lib.hid (fun W (hb : Below w.heap.size w W) => clone_c d.kept (some ⟨x.kb, 0, none⟩) x.kc W (h.below hb).kept.rd2 (by have := (h.kl); have := Nat.mul_le_mul h.sc.2 h.sz.2; omega))
  have HCP := Lib.hid (fun W (hb : Below w.heap.size w W) => pclone_c W x.pA d.pend d.pend.length x.pc rfl x.D (h.below hb).pend h.lim.1)
  have HCM := Lib.hid (fun W (hb : Below w.heap.size w W) => mclone_c W x.mb d.pend.length (newF d.pend) (h.below hb).map)
  have HCB := Lib.hid (fun W (hb : Below w.heap.size w W) => bclone_c d.keep x.eA x.ec W (h.below hb).keep (by have := h.lim.2.2.2.1; omega))
  have HBK := Lib.hid (fun W (hb : Below w.heap.size w W) => (h.below hb).blk.eight)
  have H := Lib.hid h
  obtain ⟨c0, c1, c2, c3, c4, c5, c6, c7⟩ := h.blk.eight
  obtain ⟨nk, hnk⟩ : ∃ n, n = d.kept.length := ⟨_, rfl⟩
  obtain ⟨np, hnp⟩ : ∃ n, n = d.pend.length := ⟨_, rfl⟩
  obtain ⟨ne, hne⟩ : ∃ n, n = d.keep.length := ⟨_, rfl⟩
  rw [← hnk] at c1
  rw [← hnp] at c2
  rw [← hne] at c6
  unfold NewP at HCK HCB
  rw [← hnk, ← hnp] at HBK
  rw [← hnk] at HCK
  rw [← hnp] at HCP
  rw [← hne] at HBK HCB
  have HN := Lib.hid (And.intro hnk (And.intro hnp hne))
  have hgl : g < w.heap.size := h.blk.lt
  obtain ⟨cs, hcs⟩ : ∃ cs : Array Value, cs = #[.int .i64 d.size, .slice (some ⟨x.kb, 0, none⟩) nk x.kc, .slice x.pA np x.pc, .map (some x.mb), .bool d.off, .int .i64 d.armed, .slice x.eA ne x.ec, .int .i64 d.writes] := ⟨_, rfl⟩
  have hb1 := Gw.alloc w (.cells cs 64)
  have hT1 := Bk.new w 64 cs
  have e1 := (HBK.out _ hb1).2.1
  rw [hcs] at hb1 hT1 e1
  have HB1 := Lib.hid hb1
  have HT1 := Lib.hid hT1
  clear h hnk hnp hne hb1 hT1 hcs
  go_enter Try.func19, Try.ntmps19
  go_wp2_with fail
  refine Calls.mono (HCK.out _ HB1.out) ?_
  rintro e w2 ⟨A2, k2, rfl, hc2, ho2, hb2⟩
  have hB2 := HB1.out.trans (hb2.mono HB1.out.size)
  have hT2 := HT1.out.below hb2 (by simp)
  have hf2 := hT2.free 1
  have hv2 : w2.cell? ⟨w.heap.size, 1, none⟩ = some (.slice (some ⟨x.kb, 0, none⟩) nk x.kc) := hT2.cell 1
  have hT2' := hT2.set 1 (.slice A2 nk k2)
  have hBs2 : Below w.heap.size w (w2.setCell ⟨w.heap.size, 1, none⟩ (.slice A2 nk k2)) := hB2.setCell (Nat.le_refl _) _
  have e2 := (HBK.out _ hBs2).2.2.1
  have HB2 := Lib.hid hBs2
  have HT2 := Lib.hid hT2'
  have HO2 := Lib.hid (And.intro hc2 (And.intro ho2 hB2))
  clear hc2 ho2 hb2 hB2 hT2 hT2' hBs2 e1 c0 c1 c2 c3 c4 c5 c6 c7
  go_wp2_with fail
  refine Calls.mono (HCP.out _ HB2.out) ?_
  rintro e w3 ⟨A3, k3, rfl, hp3, ha3, hb3⟩
  have hB3 := HB2.out.trans (hb3.mono HB2.out.size)
  have hT3 := HT2.out.below hb3 (by have := HB2.out.size; have := HT2.out.lt; omega)
  have hf3 := hT3.free 2
  have hv3 : w3.cell? ⟨w.heap.size, 2, none⟩ = some (.slice x.pA np x.pc) := hT3.cell 2
  have hT3' := hT3.set 2 (.slice A3 np k3)
  have hBs3 : Below w.heap.size w (w3.setCell ⟨w.heap.size, 2, none⟩ (.slice A3 np k3)) := hB3.setCell (Nat.le_refl _) _
  have e3 := (HBK.out _ hBs3).2.2.2.1
  have HB3 := Lib.hid hBs3
  have HT3 := Lib.hid hT3'
  have HO3 := Lib.hid (And.intro hp3 (And.intro ha3 hb3))
  clear hp3 ha3 hb3 hB3 hT3 hT3' hBs3 e2 hf2 hv2
  go_wp2_with fail
  refine Calls.mono (HCM.out _ HB3.out) ?_
  rintro e w4 ⟨rfl, hm4, hb4⟩
  have hB4 := HB3.out.trans (hb4.mono HB3.out.size)
  have hT4 := HT3.out.below hb4 HT3.out.lt
  have hf4 := hT4.free 3
  have hv4 : w4.cell? ⟨w.heap.size, 3, none⟩ = some (.map (some x.mb)) := hT4.cell 3
  obtain ⟨mb, hmb⟩ : ∃ k, k = (w3.setCell ⟨w.heap.size, 2, none⟩ (.slice A3 np k3)).heap.size := ⟨_, rfl⟩
  rw [← hmb] at hm4 ⊢
  have hT4' := hT4.set 3 (.map (some mb))
  have hBs4 : Below w.heap.size w (w4.setCell ⟨w.heap.size, 3, none⟩ (.map (some mb))) := hB4.setCell (Nat.le_refl _) _
  have e4 := (HBK.out _ hBs4).2.2.2.2.2.2.1
  have HB4 := Lib.hid hBs4
  have HT4 := Lib.hid hT4'
  have HO4 := Lib.hid (And.intro hm4 (And.intro hmb hb4))
  clear hm4 hb4 hB4 hT4 hT4' hBs4 e3 hf3 hv3 hmb
  go_wp2_with fail
  refine Calls.mono (HCB.out _ HB4.out) ?_
  rintro e w5 ⟨A5, k5, rfl, hc5, ho5, hb5⟩
  have hB5 := HB4.out.trans (hb5.mono HB4.out.size)
  have hT5 := HT4.out.below hb5 HT4.out.lt
  have hf5 := hT5.free 6
  have hv5 : w5.cell? ⟨w.heap.size, 6, none⟩ = some (.slice x.eA ne x.ec) := hT5.cell 6
  have hT5' := hT5.set 6 (.slice A5 ne k5)
  have hBs5 : Below w.heap.size w (w5.setCell ⟨w.heap.size, 6, none⟩ (.slice A5 ne k5)) := hB5.setCell (Nat.le_refl _) _
  have HB5 := Lib.hid hBs5
  have HT5 := Lib.hid hT5'
  have HO5 := Lib.hid (And.intro hc5 (And.intro ho5 hb5))
  clear hc5 ho5 hb5 hB5 hT5 hT5' hBs5 e4 hf4 hv4
  go_wp2_with fail
  go_ret
  obtain ⟨hc2, ho2, hB2⟩ := HO2.out
  obtain ⟨hp3, ha3, hb3⟩ := HO3.out
  obtain ⟨hm4, hmb, hb4⟩ := HO4.out
  obtain ⟨hc5, ho5, hb5⟩ := HO5.out
  obtain ⟨hnk, hnp, hne⟩ := HN.out
  obtain ⟨hb5', hT5⟩ := And.intro HB5.out HT5.out
  have hh := H.out
  obtain ⟨q, cq, eq, hq⟩ := ho2.head_ (by have := hh.kl; have := Nat.mul_le_mul hh.sc.1 hh.sz.1; omega)
  injection eq with eq1 eq2 eq3
  subst eq1 eq3
  have hwq : w.heap.size < q := by have : (w.alloc (.cells #[.int .i64 d.size, .slice (some ⟨x.kb, 0, none⟩) nk x.kc, .slice x.pA np x.pc, .map (some x.mb), .bool d.off, .int .i64 d.armed, .slice x.eA ne x.ec, .int .i64 d.writes] 64)).heap.size ≤ q := hq; simp at this; omega
  have hq2 : q < w2.heap.size := (World.ownsRow.lt ho2 q rfl).2
  have hs2 : w2.heap.size ≤ mb := by rw [hmb]; have := hb3.size; simp only [World.size_setCell] at this ⊢; exact this
  have hs3 : w2.heap.size ≤ w3.heap.size := by have := hb3.size; simp only [World.size_setCell] at this; exact this
  have hs4 : mb < w4.heap.size := hm4.lt
  have hs5 : w4.heap.size ≤ w5.heap.size := by have := hb5.size; simp only [World.size_setCell] at this; exact this
  have hs34 : w3.heap.size ≤ w4.heap.size := by have := hb4.size; simp only [World.size_setCell] at this; exact this
  have hmb3 : mb = w3.heap.size := by rw [hmb]; simp only [World.size_setCell]
  -- what each later step keeps
  have j2 : Kept (fun k => k = w.heap.size) w2 (w2.setCell ⟨w.heap.size, 1, none⟩ (.slice (some ⟨q, 0, none⟩) nk k2)) := Kept.set _ _ _ _
  have j3 : Kept (fun k => k = w.heap.size) w3 (w3.setCell ⟨w.heap.size, 2, none⟩ (.slice A3 np k3)) := Kept.set _ _ _ _
  have j4 : Kept (fun k => k = w.heap.size) w4 (w4.setCell ⟨w.heap.size, 3, none⟩ (.map (some mb))) := Kept.set _ _ _ _
  have j5 : Kept (fun k => k = w.heap.size) w5 (w5.setCell ⟨w.heap.size, 6, none⟩ (.slice A5 ne k5)) := Kept.set _ _ _ _
  have j45 := (j4.trans (Kept.of_below hb5 _)).trans j5
  have j35 := (j3.trans (Kept.of_below hb4 _)).trans j45
  have j25 := (j2.trans (Kept.of_below hb3 _)).trans j35
  have ha3' : ∀ a, A3 = some a → w2.heap.size ≤ a.block ∧ a.block < w3.heap.size := fun a e => ⟨by have := ha3 a e; simp only [World.size_setCell] at this; exact this, hp3.lt a.block (by rw [e]; rfl)⟩
  have ha5 : ∀ a, A5 = some a → w4.heap.size ≤ a.block ∧ a.block < w5.heap.size := fun a e => by have := ow_addr ho5 a e; simp only [World.size_setCell] at this; exact this
  subst hnk hnp hne
  have z5 : (w5.setCell ⟨w.heap.size, 6, none⟩ (.slice A5 d.keep.length k5)).heap.size = w5.heap.size := by simp only [World.size_setCell]
  refine ⟨w.heap.size, ⟨q, k2, A3, k3, mb, A5, k5, fun k => x.D k ∨ ∃ a, A5 = some a ∧ k = a.block⟩, rfl, ⟨hT5, j25.ow (own_low ho2) (fun k e => by obtain ⟨a, e1, rfl⟩ := own_slice e; injection e1 with e1; subst e1; show ¬ q = w.heap.size; omega), (hp3.kept j35 (fun k e => by obtain ⟨a, e1, rfl⟩ := own_slice e; have := ha3' a e1; show ¬ a.block = w.heap.size; omega) (fun k e => by have := hh.Dlt k e; show ¬ k = w.heap.size; omega)).weak (fun k e => .inl e), hm4.kept j45 (by show ¬ mb = w.heap.size; omega), j5.rd ho5.rd2 (fun a e => by have := ha5 a e; show ¬ a.block = w.heap.size; omega), fun a e => .inr ⟨a, e, rfl⟩, ?_, ?_, ?_, ?_, ?_, ?_, hh.sz, hh.sc, hh.kl, hh.pl, ?_⟩, ?_, ?_, hb5'⟩
  · rintro k (e | ⟨a, e, rfl⟩)
    · have := hh.Dlt k e; rw [z5]; omega
    · have := ha5 a e; rw [z5]; omega
  · show q ≠ w.heap.size; omega
  · show mb ≠ w.heap.size; omega
  · show mb ≠ q; omega
  · intro a e
    have := ha3' a e
    exact ⟨by omega, by show a.block ≠ q; omega, by show a.block ≠ mb; omega⟩
  · rintro k (e | ⟨a, e, rfl⟩)
    · have := hh.Dlt k e
      exact ⟨by omega, by show k ≠ q; omega, by show k ≠ mb; omega, fun a e => by have := ha3' a e; omega⟩
    · have := ha5 a e
      exact ⟨by omega, by show a.block ≠ q; omega, by show a.block ≠ mb; omega, fun b e => by have := ha3' b e; omega⟩
  · exact ⟨hh.lim.1, hh.lim.2.1, hh.lim.2.2.1, hh.lim.2.2.2.1, hc5⟩
  · rintro k (rfl | e | e | ⟨a, e, rfl⟩)
    · exact Nat.le_refl _
    · have e : k = q := e; omega
    · have e : k = mb := e; omega
    · have := ha3' a e; omega
  · rintro k (e | ⟨a, e, rfl⟩)
    · exact .inl e
    · have := ha5 a e; exact .inr (by omega)
end
end Go.Proofs.Ytfcbmdmkdjaoaaa
