/- The law CopyBytes of layer 21 returns true for every argument. No conditions. -/
import Derived.Test.YtlibcpboooehlaaYa4
namespace Go.Proofs.Ytlibcpboooehlaa
set_option linter.unusedVariables false
set_option linter.unusedSimpArgs false
open Go.RowKit Go.Maps
def cutP (p : Pt) : List (BitVec 8) := if p.2.1.length ≤ 300 then p.2.1 else []
theorem few_cut (ps : List Pt) : FewB (ps.map cutP) := by
  intro k
  unfold atB
  rw [List.getD_eq_getElem?_getD, List.getElem?_map]
  cases ps[k]? with
  | none => exact Nat.zero_le _
  | some p =>
    show (cutP p).length ≤ 300
    unfold cutP
    split
    · assumption
    · exact Nat.zero_le _
theorem at_cut {ps : List Pt} {k : Nat} (hk : k < ps.length) (h : ps[k].2.1.length ≤ 300) : atB (ps.map cutP) k = ps[k].2.1 := by
  unfold atB
  rw [List.getD_eq_getElem?_getD, List.getElem?_map, List.getElem?_eq_getElem hk]
  show cutP ps[k] = _
  unfold cutP
  rw [if_pos h]
section
variable {l : List (List (BitVec 8))}
theorem plB_succ (k : Nat) : (plB l (k + 1)).reverse = cbP l k :: (plB l k).reverse := by
  unfold plB
  rw [List.range_succ, List.map_append, List.reverse_append]
  rfl
theorem sum_rev (hf : FewB l) {n : Nat} (hn : n ≤ 10) : ∀ k, k ≤ n → sumZ (cbW l n) (plB l k).reverse = cbP l k
  | 0, _ => rfl
  | k + 1, h => by
    rw [plB_succ]
    show szX ((cbW l n).getD (cbP l k) 0#64) + sumZ (cbW l n) (plB l k).reverse = _
    rw [sum_rev hf hn k (by omega), cb_head hf n hn k (by omega), (hdB_facts hf k _ (Nat.le_refl _)).2.2.2]
    show _ = cbP l k + szB (atB l k)
    omega
theorem nodup_plB (hf : FewB l) (n : Nat) : (plB l n).reverse.Nodup := by
  unfold List.Nodup
  rw [List.pairwise_reverse]
  unfold plB
  refine List.pairwise_map.2 (List.pairwise_lt_range.imp fun {a b} h => ?_)
  have := cbP_lt hf h
  have := (szB_le hf a).1
  omega
theorem rev_at {n i : Nat} (hi : i < n) : ∃ h : n - 1 - i < (plB l n).reverse.length, (plB l n).reverse[n - 1 - i] = cbP l i := by
  have hl : (plB l n).length = n := by unfold plB; simp
  have h : n - 1 - i < (plB l n).reverse.length := by rw [List.length_reverse, hl]; omega
  refine ⟨h, ?_⟩
  rw [List.getElem_reverse]
  have e : (plB l n).length - 1 - (n - 1 - i) = i := by omega
  simp only [e]
  unfold plB
  simp
theorem bytes_of (hf : FewB l) {n i : Nat} (hn : n ≤ 10) (hi : i < n) : bytesM (cbW l n) (8 * (cbP l i + 1)) (atB l i).length = atB l i := by
  have q : szB (atB l i) = 1 + 0 + ((atB l i).length + 7) / 8 := rfl
  apply List.ext_getElem
  · simp [bytesM]
  · intro j h1 h2
    have e : (bytesM (cbW l n) (8 * (cbP l i + 1)) (atB l i).length)[j] = byteAt (cbW l n) (8 * (cbP l i + 1) + j) := by simp [bytesM]
    rw [e, cb_byte hf n hn i hi _ (by omega) (by omega), show 8 * (cbP l i + 1) + j - 8 * (cbP l i + 1) = j from by omega]
    simp [List.getD, h2]
/-- The copy of objects of bytes, by their places from the last one on. -/
theorem cb_copy (hf : FewB l) {n : Nat} (hn : n ≤ 10) : ∃ d, copyC (cbW l n) 600 ((plB l n).reverse.map (· + 1)) = some ((posL (cbW l n) (plB l n).reverse 0).map (· + 1), d) ∧ d.T.length = 600 ∧ ∀ i, i < n → ∃ x, (posL (cbW l n) (plB l n).reverse 0)[n - 1 - i]? = some x ∧ x + szB (atB l i) ≤ d.top ∧ d.T.getD x 0#64 = hdB (atB l i) ∧ bytesM d.T (8 * (x + 1)) (atB l i).length = atB l i := by
  obtain ⟨w1, w2⟩ := cb_well hf hn
  have h1 := cbP_le hf n
  have H := heap_of w1 w2 (by rw [cbW_len]; omega) (by rw [cbW_len]; decide)
  obtain ⟨d, d1, d2, d3, d4⟩ := copy_plain H 600 (by decide) (plB l n).reverse (fun a ha => by
    have ha := List.mem_reverse.1 ha
    refine ⟨ha, ?_⟩
    obtain ⟨i, hi, rfl⟩ := List.mem_map.1 ha
    have hi := List.mem_range.1 hi
    rw [cb_head hf n hn i hi]
    exact (hdB_facts hf i _ (Nat.le_refl _)).2.1) (nodup_plB hf n) (by rw [sum_rev hf hn n (Nat.le_refl _)]; omega)
  refine ⟨d, d1, d3, fun i hi => ?_⟩
  obtain ⟨hj, ej⟩ := rev_at (l := l) hi
  obtain ⟨x, x1, x2, x3, x4⟩ := chain_at _ 0 _ (n - 1 - i) hj d4
  rw [ej, cb_head hf n hn i hi, (hdB_facts hf i _ (Nat.le_refl _)).2.2.2] at x3 x4
  have q := (szB_le hf i).1
  refine ⟨x, x1, x3, ?_, ?_⟩
  · have := x4 0 (by omega)
    rw [Nat.add_zero, Nat.add_zero] at this
    rw [this, cb_head hf n hn i hi]
  · rw [bytes_same (B := cbW l n) (y := cbP l i + 1), bytes_of hf hn hi]
    intro j hj2
    have q2 : szB (atB l i) = 1 + 0 + ((atB l i).length + 7) / 8 := rfl
    rw [show x + 1 + j = x + (1 + j) from by omega, x4 (1 + j) (by omega)]
    congr 1
    omega
end
theorem plZ_copy {l : List (List (BitVec 8))} (n : Nat) : ((plB l n).reverse.map fun x : Nat => (x : Int)).map rootP = (plB l n).reverse.map (· + 1) := by
  rw [List.map_map]
  refine List.map_congr_left fun x _ => ?_
  show rootP (x : Int) = x + 1
  unfold rootP; omega
theorem backZ_plus (xs : List Nat) : backZ (xs.map (· + 1)) = xs.map fun x : Nat => (x : Int) := by
  unfold backZ
  rw [List.map_map]
  refine List.map_congr_left fun x _ => ?_
  show ((x + 1 : Nat) : Int) - 1 = (x : Int)
  omega
theorem int_one : ∀ x : Int, (zV x).oneCell' = true := fun _ => rfl
set_option maxHeartbeats 4000000
set_option maxRecDepth 100000
theorem cbytes_walk (w : World) (A : Option Addr) (ps : List Pt) (c : Nat) (_hc : ps.length ≤ c) (_hm : c ≤ maxLen) (hr : Rd Pt.v w w.heap.size A ps) (hp : ∀ x ∈ ps, x.2.1.length ≤ x.2.2 ∧ Rd b8 w w.heap.size x.1 x.2.1) :
    Calls Try.prog 6 #[.slice A ps.length c] w (RetP (.bool true) w) := by
  have HKn := Lib.hid (known21_c w)
  obtain ⟨n, hn⟩ : ∃ n, n = ps.length := ⟨_, rfl⟩
  by_cases hl : 10 < n
  · rw [← hn]
    have t1 : (10 : Int) < (n : Int) := by omega
    clear hn hr hp _hc _hm
    go_enter Try.func6, Try.ntmps6
    go_wp2_with fail
    refine Calls.mono HKn.out ?_
    rintro r w1 ⟨rfl, b1⟩
    have HB1 := Lib.hid b1
    clear b1
    go_wp2_with fail
    go_ret
    exact ⟨rfl, HB1.out⟩
  have HN := Lib.hid hn
  have HL := Lib.hid hl
  have HR := Lib.hid hr
  have HP := Lib.hid hp
  rw [← hn]
  have t1 : ¬ (10 : Int) < (n : Int) := by omega
  have t2 : (n : Int) ≤ 10 := by omega
  obtain ⟨ls, hls⟩ : ∃ ls, ls = ps.map cutP := ⟨_, rfl⟩
  have HFw := Lib.hid (show FewB ls from by rw [hls]; exact few_cut ps)
  have HAt := Lib.hid (show ∀ k (h : k < ps.length), ps[k].2.1.length ≤ 300 → atB ls k = ps[k].2.1 from fun k h h2 => by rw [hls]; exact at_cut h h2)
  clear hn hr hp _hc _hm hls hl
  go_enter Try.func6, Try.ntmps6
  go_wp2_with fail
  refine Calls.mono HKn.out ?_
  rintro r w1 ⟨rfl, b1⟩
  have HB1 := Lib.hid b1
  clear b1 HKn
  go_wp2_with fail
  refine Calls.mono (new_in w1 600 (by decide)) ?_
  rintro r w2 ⟨g, v, rfl, hm2, b2⟩
  have H2 := Lib.hid (And.intro hm2 (HB1.out.trans (b2.mono HB1.out.size)))
  clear hm2 b2
  go_wp2_with fail
  refine Calls.mono (snew_in w2 w1.heap.size g v (List.replicate 600 0#64) 0 600 H2.out.1 (Nat.zero_le _) (by rw [List.length_replicate]; decide) (by rw [List.length_replicate]; decide)) ?_
  rintro r w3 ⟨s, rfl, hp3, b3⟩
  obtain ⟨B, hB⟩ : ∃ B, B = w1.heap.size := ⟨_, rfl⟩
  rw [← hB] at hp3
  obtain ⟨D, hD⟩ : ∃ D, D = w3.heap.size := ⟨_, rfl⟩
  have H3 := Lib.hid (show SpAt w3 B s g v (cbW ls 0) 0 (cbP ls 0) 600 ∧ Below w.heap.size w w3 from ⟨hp3, H2.out.2.trans (b3.mono H2.out.2.size)⟩)
  have HD := Lib.hid (show w.heap.size ≤ B ∧ B ≤ D ∧ s < D ∧ g < D ∧ (∀ k, v.ownBlock = some k → k < D) ∧ D = w3.heap.size from ⟨by rw [hB]; exact HB1.out.size, by rw [hD]; exact Nat.le_trans hp3.hs (Nat.le_of_lt hp3.blk.lt), by rw [hD]; exact hp3.blk.lt, by rw [hD]; exact hp3.mem.blk.lt, by rw [hD]; exact fun k hk => (hp3.mem.row.lt k hk).2, hD⟩)
  clear hp3 b3 hB H2 hD
  go_wp2_with fail
  go_loopw [7, 8] (fun x y W => ∃ k A7 c7, x = .slice A7 k c7 ∧ y = .int .i64 (k : Nat) ∧ k ≤ n ∧ Hid (SpAt W B s g v (cbW ls k) 0 (cbP ls k) 600 ∧ Ow zV 3 W D (.slice A7 k c7) ((plB ls k).reverse.map fun x : Nat => (x : Int)) ∧ Below w.heap.size w W ∧ D ≤ W.heap.size ∧ ∀ i, (h : i < ps.length) → i < k → ps[i].2.1.length ≤ 300)) (fun _ y _ => n - (Go.RowKit.intOf y).toNat)
  case atStart => exact ⟨0, none, 0, rfl, rfl, Nat.zero_le _, Lib.hid ⟨H3.out.1, Ow.nil_ _ _ _ _, H3.out.2, by rw [HD.out.2.2.2.2.2]; exact Nat.le_refl _, fun i _ h => absurd h (by omega)⟩⟩
  case round =>
    obtain ⟨k, A7, c7, rfl, rfl, hk, hS⟩ := hrel
    obtain ⟨e1, e2, e3, e5, e4⟩ := hS.out
    by_cases hlt : k < n
    · have hkl : k < ps.length := by rw [← HN.out]; exact hlt
      obtain ⟨y, hy⟩ : ∃ y, y = ps[k] := ⟨_, rfl⟩
      have hym : y ∈ ps := by rw [hy]; exact List.getElem_mem _
      obtain ⟨ad, rfl, hab, hc⟩ := (HR.out.below e3) k hkl
      rw [← hy] at hc
      unfold Pt.v at hc
      have q0 : (0 : Int) ≤ (k : Int) := by omega
      have q1 : (k : Int) < (n : Int) := by omega
      obtain ⟨Ay, bs, cy⟩ := y
      simp only at hc
      obtain ⟨m, hm⟩ : ∃ m, m = bs.length := ⟨_, rfl⟩
      rw [← hm] at hc
      by_cases h3 : 300 < m
      · have q2 : (300 : Int) < (m : Int) := by omega
        have HE := Lib.hid e3
        clear e1 e2 e3 e4 e5 hS hy hkl hym hab
        go_wp2_with fail
        go_ret
        exact ⟨rfl, HE.out⟩
      · have q2 : ¬ (300 : Int) < (m : Int) := by omega
        have hat : atB ls k = bs := by
          rw [HAt.out k hkl (by rw [← hy]; show bs.length ≤ 300; omega), ← hy]
        have hpl := cbP_le HFw.out k
        have hsz := szB_le HFw.out k
        obtain ⟨hR, hZ⟩ := sizeH_two 0 m (by decide) (by omega)
        have hzb : szB (atB ls k) = 1 + 0 + (m + 7) / 8 := by rw [hat, hm]; rfl
        have hhb : hdB (atB ls k) = packH ((0 : Nat) : Int) (m : Int) false 0 := by rw [hat, hm]; rfl
        have HAl := Lib.hid (alloc_ok3 wr B s g v (cbW ls k) 0 (cbP ls k) 600 e1 (by rw [cbW_len]; decide) ((0 : Nat) : Int) (m : Int) 0 (szB (atB ls k)) hR (by rw [hzb]; exact hZ) hsz.1 (by have := HL.out; omega))
        rw [← hhb] at HAl
        obtain ⟨T, hT⟩ : ∃ T, T = cbP ls k := ⟨_, rfl⟩
        obtain ⟨hg1, hg2, hg3, hg4⟩ := hdB_facts HFw.out k (T + szB (atB ls k) - T) (by omega)
        have hgT : (allocW (cbW ls k) T (szB (atB ls k)) (hdB (atB ls k))).getD T 0#64 = hdB (atB ls k) := by
          rw [allocW_get _ _ _ _ _ hsz.1 (by rw [cbW_len]; have := HL.out; omega), if_pos rfl]
        have hbd := HP.out _ hym
        have HWr := Lib.hid (fun W (hW : Below w.heap.size w W) (p : SpAt W B s g v (allocW (cbW ls k) T (szB (atB ls k)) (hdB (atB ls k))) 0 (T + szB (atB ls k)) 600) => write_ok W B s g v _ 0 (T + szB (atB ls k)) 600 p (by rw [allocW_len, cbW_len]; decide) T 0 Ay cy bs (Nat.zero_le _) (by omega) (by rw [hgT]; exact hg1) (by rw [hgT, hg3, hat]; omega) ((hbd.2.below hW).more hW.size) (fun hpos x hx e => by
          obtain ⟨x', e1', h1', _⟩ := hbd.2 0 hpos
          rw [hx] at e1'
          injection e1' with e1'
          subst e1'
          have := p.mem.own_ge _ e.symm
          have := HD.out.1
          omega))
        rw [hgT, hg2, ← hm] at HWr
        have HNx := Lib.hid (show putK (allocW (cbW ls k) T (szB (atB ls k)) (hdB (atB ls k))) (8 * (T + 1 + 0) + 0) bs m = cbW ls (k + 1) ∧ T + szB (atB ls k) = cbP ls (k + 1) from by
          constructor
          · show _ = putO8 (cbW ls k) (cbP ls k) (atB ls k)
            unfold putO8
            rw [hT, hm, hat]
          · rw [hT]; rfl)
        have HSt := Lib.hid (And.intro e2 (And.intro e3 (And.intro e5 (show ∀ i, (h : i < ps.length) → i < k + 1 → ps[i].2.1.length ≤ 300 from fun i h hi => by
          by_cases e : i = k
          · subst e; rw [← hy]; show bs.length ≤ 300; omega
          · exact e4 i h (by omega)))))
        have HRv := Lib.hid (show ((plB ls (k + 1)).reverse.map fun x : Nat => (x : Int)) = ((T : Nat) : Int) :: ((plB ls k).reverse.map fun x : Nat => (x : Int)) ∧ ((plB ls k).reverse.map fun x : Nat => (x : Int)).length = k from by
          constructor
          · rw [plB_succ, List.map_cons, hT]
          · simp [plB])
        have HAd := Lib.hid (show ad.block < w.heap.size ∧ (∀ W, Below w.heap.size w W → W.cell? (ad.add k) = some (.slice Ay m cy)) from ⟨hab, fun W hW => by
          obtain ⟨a2, e2', _, hc2⟩ := (HR.out.below hW) k hkl
          injection e2' with e2'
          subst e2'
          rw [← hy] at hc2
          unfold Pt.v at hc2
          rw [hm]; exact hc2⟩)
        have hT4 : (T : Int) ≤ 600 := by have := HL.out; omega
        rw [← hT] at HAl
        clear e1 e2 e3 e4 e5 hS hy hkl hym hab hat hpl hsz hR hZ hzb hhb hT hg1 hg2 hg3 hg4 hgT hbd hm
        go_wp2_with fail
        refine Calls.mono HAl.out ?_
        rintro r w5 ⟨rfl, hp5, b5, tw5⟩
        have hb5 := HSt.out.2.1.trans (b5.mono HD.out.1)
        have H5 := Lib.hid (And.intro hp5 (And.intro (tw5.kept.ow HSt.out.1 (fun j hj => by
          have h1 := (HSt.out.1.lt j hj).1
          have := HD.out
          rintro (e | e)
          · omega
          · have := HD.out.2.2.2.2.1 _ e.symm; omega)) (And.intro hb5 (Nat.le_trans HSt.out.2.2.1 tw5.size))))
        have hc5 := HAd.out.2 w5 hb5
        clear hp5 b5 tw5 hb5 hc
        go_wp2_with fail
        refine Calls.mono (HWr.out w5 H5.out.2.2.1 H5.out.1) ?_
        rintro r w6 ⟨rfl, hp6, tw6, b6⟩
        have hb6 := H5.out.2.2.1.trans (b6.mono HD.out.1)
        rw [HNx.out.1, HNx.out.2] at hp6
        have H6 := Lib.hid (And.intro hp6 (And.intro (tw6.kept.ow H5.out.2.1 (fun j hj => by
          have h1 := (H5.out.2.1.lt j hj).1
          have := HD.out
          rintro (e | e)
          · omega
          · have := HD.out.2.2.2.2.1 _ e.symm; omega)) (And.intro hb6 (Nat.le_trans H5.out.2.2.2 tw6.size))))
        clear hp6 b6 tw6 hb6 hc5
        obtain ⟨xs, hxs⟩ : ∃ xs, xs = ((plB ls k).reverse.map fun x : Nat => (x : Int)) := ⟨_, rfl⟩
        rw [← hxs] at H6 HRv
        have HOw := Lib.hid (show Ow zV 3 (w6.alloc (.cells #[.int .i64 T] 3)) w6.heap.size (.slice (some ⟨w6.heap.size, 0, none⟩) 1 1) [((T : Nat) : Int)] from World.ownsRow_lit w6 #[.int .i64 T] 1 (Nat.le_refl _) (by simp [maxLen]) rfl)
        have HRx := Lib.hid (show k = xs.length ∧ Rd zV (w6.alloc (.cells #[.int .i64 T] 3)) w6.heap.size A7 xs ∧ xs.length ≤ 10 from ⟨HRv.out.2.symm, by
          have h := H6.out.2.1
          rw [← HRv.out.2] at h
          exact h.rd.alloc (Nat.le_refl _) _, by have := HRv.out.2; have := HL.out; omega⟩)
        clear hxs
        go_wp2_with (at_builtin; refine wp_app oneI int_one rfl (.tmp 67) (.tmp 68) rfl w6.heap.size _ [((T : Nat) : Int)] rfl HOw.out A7 k c7 xs rfl HRx.out.1 w6.heap.size HRx.out.2.1 (by have := HRx.out.2.2; simp; omega) (by decide) (by simp) ?_; intro v9 w9 ho9 hb9 _ _; obtain ⟨A9, c9, e9, _⟩ := ho9.form; rw [show ([((T : Nat) : Int)] ++ xs).length = k + 1 from by have := HRx.out.1; simp; omega] at e9; subst e9; have H9 := Lib.hid (And.intro ho9 ((Gw.alloc w6 (.cells #[.int .i64 T] 3)).trans hb9)); clear ho9 hb9)
        have H10 := Lib.hid (show SpAt w9 B s g v (cbW ls (k + 1)) 0 (cbP ls (k + 1)) 600 ∧ Ow zV 3 w9 D (.slice A9 (k + 1) c9) ((plB ls (k + 1)).reverse.map fun x : Nat => (x : Int)) ∧ Below w.heap.size w w9 ∧ D ≤ w9.heap.size ∧ ∀ i, (h : i < ps.length) → i < k + 1 → ps[i].2.1.length ≤ 300 from
          ⟨H6.out.1.below H9.out.2, by rw [HRv.out.1]; exact H9.out.1.mono H6.out.2.2.2, H6.out.2.2.1.trans (H9.out.2.mono H6.out.2.2.1.size), Nat.le_trans H6.out.2.2.2 H9.out.2.size, HSt.out.2.2.2⟩)
        go_roundw
        case rel => first | exact ⟨k + 1, A9, c9, rfl, by go_num, by omega, H10⟩ | ((repeat apply Exists.intro); refine ⟨?_, rfl⟩; exact ⟨k + 1, A9, c9, rfl, by go_num, by omega, H10⟩)
        case measure => simp [Go.RowKit.intOf]; omega
    · have hkn : n = k := by omega
      subst hkn
      have hn10 : n ≤ 10 := by have := HL.out; omega
      obtain ⟨wl1, wl2⟩ := cb_well HFw.out hn10
      obtain ⟨d, d1, d2, d3⟩ := cb_copy HFw.out hn10
      obtain ⟨xs, hxs⟩ : ∃ xs, xs = ((plB ls n).reverse.map fun x : Nat => (x : Int)) := ⟨_, rfl⟩
      have hxl : xs.length = n := by rw [hxs]; simp [plB]
      have hpn := cbP_le HFw.out n
      have hrd : Rd zV wr wr.heap.size A7 xs := by
        rw [← hxs, ← hxl] at e2
        exact e2.rd
      have hmemx : ∀ r ∈ xs, ∃ y ∈ plB ls n, (y : Int) = r ∧ y ≤ 600 := by
        intro r hr
        rw [hxs] at hr
        obtain ⟨y, hy, rfl⟩ := List.mem_map.1 hr
        have hy := List.mem_reverse.1 hy
        refine ⟨y, hy, rfl, ?_⟩
        obtain ⟨i, hi, rfl⟩ := List.mem_map.1 hy
        have := cbP_lt HFw.out (List.mem_range.1 hi)
        omega
      have hCp := copy_c wr B s g v (cbW ls n) 0 (cbP ls n) 600 e1 (by rw [cbW_len]; decide) (plB ls n) wl1 wl2 A7 xs c7 hrd (by omega) (fun r hr => by
        obtain ⟨y, _, rfl, h⟩ := hmemx r hr
        exact wfI (by omega) (by omega)) (List.all_eq_true.2 fun r hr => by
        obtain ⟨y, hy, h, _⟩ := hmemx r hr
        unfold rootB
        exact decide_eq_true (.inr ⟨y, hy, h⟩)) 600 (by decide)
      rw [hxl, hxs, plZ_copy, d1] at hCp
      have HCp := Lib.hid hCp
      have HDd := Lib.hid (And.intro d2 d3)
      have HE := Lib.hid (And.intro e3 e4)
      clear e1 e2 e3 e4 e5 hS hlt hk wl1 wl2 d1 d2 d3 hxs hxl hpn hrd hmemx hCp H3
      go_wp2_with fail
      refine Calls.mono HCp.out ?_
      rintro r w8 ⟨s', g', v', q, rfl, hp8, hl8, ho8, b8⟩
      have H8 := Lib.hid (And.intro hp8 (And.intro ho8 (HE.out.1.trans (b8.mono HE.out.1.size))))
      clear hp8 hl8 ho8 b8 HCp
      go_wp2_with fail
      go_loopw [14] (fun z W => ∃ i : Nat, z = .int .i64 i ∧ i ≤ n ∧ Hid (Below w8.heap.size w8 W)) (fun z _ => n - (Go.RowKit.intOf z).toNat)
      case atStart => exact ⟨0, rfl, Nat.zero_le _, Lib.hid (Below.refl _ _)⟩
      case round =>
        obtain ⟨i, rfl, hi, hS⟩ := hrel
        by_cases hlt : i < n
        · have q1 : (i : Int) < (n : Int) := by omega
          have q0 : (0 : Int) ≤ (i : Int) := by omega
          have hkl : i < ps.length := by rw [← HN.out]; exact hlt
          obtain ⟨y, hy⟩ : ∃ y, y = ps[i] := ⟨_, rfl⟩
          have hym : y ∈ ps := by rw [hy]; exact List.getElem_mem _
          have hbw : Below w.heap.size w wr := H8.out.2.2.trans (hS.out.mono H8.out.2.2.size)
          obtain ⟨ad, rfl, hab, hc⟩ := (HR.out.below hbw) i hkl
          rw [← hy] at hc
          unfold Pt.v at hc
          have hat : atB ls i = y.2.1 := by rw [HAt.out i hkl (HE.out.2 i hkl hlt), ← hy]
          have hbd := (HP.out _ hym).2
          obtain ⟨Ay, bs, cy⟩ := y
          simp only at hc hat hbd
          obtain ⟨x, x1, x2, x3, x4⟩ := HDd.out.2 i hlt
          rw [hat] at x2 x3 x4
          obtain ⟨J, hJ⟩ : ∃ J, J = n - 1 - i := ⟨_, rfl⟩
          obtain ⟨N1, hN1⟩ : ∃ N1, N1 = n - 1 := ⟨_, rfl⟩
          have f1 : (n : Int) - 1 = (N1 : Int) := by omega
          have f2 : (N1 : Int) - (i : Int) = (J : Int) := by omega
          have hJn : J < n := by omega
          rw [← hJ] at x1
          have hJl : J < (posL (cbW ls n) (plB ls n).reverse 0).length := (List.getElem?_eq_some_iff.1 x1).1
          have hxe : (posL (cbW ls n) (plB ls n).reverse 0)[J] = x := (List.getElem?_eq_some_iff.1 x1).2
          have ho9 := H8.out.2.1.below hS.out
          rw [backZ_plus] at ho9
          have cx := ho9.cell (j := J) (by rw [List.length_map]; exact hJl)
          rw [List.getElem_map, hxe] at cx
          have hq9 := ho9.ge.2
          have hgd := hd_facts 0 bs.length (d.top - x) (by decide) (by have := HE.out.2 i hkl hlt; rw [← hy] at this; have : bs.length ≤ 300 := this; omega) (by have : szB bs = 1 + 0 + (bs.length + 7) / 8 := rfl; omega)
          have hxt : x < d.top := by have : szB bs = 1 + 0 + (bs.length + 7) / 8 := rfl; omega
          have hxh : d.T.getD x 0#64 = packH ((0 : Nat) : Int) (bs.length : Int) false 0 := x3
          have HRe := Lib.hid (fun W (hW : Below wr.heap.size wr W) => read_ok W _ s' g' v' d.T 0 d.top 600 ((H8.out.1.below hS.out).below hW) (by rw [HDd.out.1]; decide) x 0 bs.length (Nat.zero_le _) hxt (by rw [hxh]; exact hgd.1) (by rw [hxh, hgd.2.2.1]; omega))
          rw [hxh, hgd.2.1, show 8 * (x + 1 + 0) + 0 = 8 * (x + 1) from by omega, x4] at HRe
          have hab9 : ad.block < wr.heap.size := Nat.lt_of_lt_of_le hab hbw.size
          have HBy := Lib.hid (show ∀ W, Below wr.heap.size wr W → Rd b8 W W.heap.size Ay bs ∧ W.cell? (ad.add i) = some (.slice Ay bs.length cy) from fun W hW => ⟨((hbd.below (hbw.trans (hW.mono hbw.size))).more (hbw.trans (hW.mono hbw.size)).size), (hW.cell (p := ad.add i) (by rw [add_block]; exact hab9)).trans hc⟩)
          have f5 : (0 : Int) ≤ (J : Int) := by omega
          have f6 : (J : Int) < (n : Int) := by omega
          have f7 : (0 : Int) ≤ (N1 : Int) := by omega
          have HBe := Lib.hid hS.out
          clear hJ hN1 hJn hJl hxe ho9 hgd hxt hxh x1 x2 x3 x4 hat hy hym hkl hbd hS
          go_wp2_with fail
          refine cb23 _ _ _ (some ad) Ay n i bs.length J N1 q s' x c cy ad bs rfl q0 q1 f1 f2 t2 f5 f6 f7 hq9 hab9 cx hc HRe rfl rfl rfl rfl rfl ?_
          intro vals w10 hG h15 h16
          obtain ⟨A15, c15, e15, _, hr15⟩ := h15
          unfold IsV at h16
          simp only [putD, Act.put, List.setIfInBounds_toArray, List.set_cons_zero, List.set_cons_succ, e15, h16]
          have H10 := Lib.hid (And.intro hr15 hG)
          have hab10 : ad.block < w10.heap.size := Nat.lt_of_lt_of_le hab9 hG.size
          obtain ⟨hri, hci⟩ := HBy.out w10 hG
          have Hri := Lib.hid hri
          have Hr15 := Lib.hid hr15
          clear hG h16 e15 hr15 cx hc hq9 HRe hri
          go_wp2_with fail
          refine cb24 _ _ _ (some ad) Ay A15 n i c cy c15 ad bs rfl q0 q1 hab10 hci Hr15 Hri rfl rfl rfl rfl rfl ?_
          intro vals2 w11 hG h121
          unfold IsV at h121
          simp only [putD, Act.put, List.setIfInBounds_toArray, List.set_cons_zero, List.set_cons_succ, h121]
          have H11 := Lib.hid (HBe.out.trans ((H10.out.2.trans (hG.mono H10.out.2.size)).mono HBe.out.size))
          clear hG h121 hci
          go_wp2_with fail
          go_roundw
          case rel => first | exact ⟨i + 1, by go_num, by omega, H11⟩ | ((repeat apply Exists.intro); refine ⟨?_, rfl⟩; exact ⟨i + 1, by go_num, by omega, H11⟩)
          case measure => simp [Go.RowKit.intOf]; omega
        · have hMi : n = i := by omega
          subst hMi
          have HE2 := Lib.hid (H8.out.2.2.trans (hS.out.mono H8.out.2.2.size))
          clear hS hlt hi
          go_wp2_with fail
          go_ret
          exact ⟨rfl, HE2.out⟩
end Go.Proofs.Ytlibcpboooehlaa
namespace Go.Proofs.Ytlibcpboooehlaa.copyBytes
open Go.ChangeShapes Go.WideShapes Go.ChangeAt Go.RowKit
open Go.ChangeMaps (open_string shut_string)
set_option linter.unusedVariables false
set_option maxRecDepth 100000 in
theorem lifted (os : Os) (started : os.Started) (H : Type) (enc : TypeId × Value → H) :
    ReturnsInHanded {} Try.checked os 6 .any (Rows.copyBytesSpec.pre6 enc Try.prog Try.f6 Rows.copyBytesRow.domain false) (Rows.copyBytesSpec.post enc Try.prog Try.f6 false true false false) := by
  refine returnsInHanded_of_change (C := Try.checked) own started (by kernel_rfl) Try.func6
    (ChangeSpec.witness6 (enc := enc) (C := Try.checked) false ⟨#[], #[.slice none 0 0], []⟩ 8 (by kernel_rfl) (by kernel_rfl) (by kernel_rfl) (by kernel_rfl)) ?_
  intro W base args ds gs before hval0 hW hcnd _
  have hval : ∀ (j : Nat) t v, Try.f6.params[j]? = some t → args[j]? = some v → Value.okWide Try.prog W .any base t v := hval0
  have hW' := hW
  obtain ⟨p, q, hA0, hV, rfl, hfz, hnd⟩ := hW
  have hA : DataW.TrodAll enc Try.prog W 0 (fun _ => true) true Try.f6.params.toList args.toList ds p := hA0
  rw [Try.params6] at hA hval
  obtain ⟨v0, vs0, d0, ds0, p0, q0, hargs, rfl, rfl, h0, r0⟩ := trodAll_cons hA
  obtain ⟨rfl, rfl, rfl⟩ := trodAll_nil r0
  obtain rfl : args = #[v0] := by cases args; simp_all
  obtain ⟨rfl, rfl⟩ := trodVars_none hV
  have k0 := h0
  have lt0 : ∀ x ∈ p0, x.block < W.heap.size := by obtain ⟨m, hm⟩ := k0; exact DataW.trod_lt m _ _ _ hm
  obtain ⟨A0, a0, c0, e0v, g0, m0, r0r, w0⟩ := open_parts Try.underlying58 Try.underlying59 Try.underlying5 (by kernel_rfl) (by kernel_rfl) (hval 0 58 v0 rfl rfl) h0; subst e0v
  clear hA0 hval0
  refine (cbytes_walk W A0 a0 c0 g0 m0 r0r w0).mono fun e W' ⟨he, bel⟩ => ?_
  subst he
  exact ⟨_, rfl, _, _, _, [], _, [], hW', trodAll_mk1 (shut_bool Try.underlying4 _), (trodAll_cons_mk (Below.trod laidOut (by kernel_rfl) (of_decide_eq_true (by kernel_rfl)) k0 bel lt0) trodAll_mk0), rfl, bel.frame _, fun h => by cases h⟩
theorem over : Rows.copyBytesRow.holds Try.pinned (OpenSpec.ofChange Rows.copyBytesSpec) :=
  OpenClaim.holds_of_wide 6 Try.f6 rfl rfl rfl rfl rfl rfl rfl ⟨rfl, rfl, rfl, rfl, rfl⟩ rfl rfl rfl rfl rfl (by kernel_rfl) Try.func6 (by kernel_rfl)
    (of_decide_eq_true (by kernel_rfl)) (by unfold Func.isWrapper; first | (rw [if_pos (by decide +kernel)]; kernel_rfl) | (rw [if_neg (by decide +kernel)]; exact ⟨rfl, rfl⟩))
    (fun os started H enc _ => lifted os started H enc)
theorem proved : Rows.CopyBytesSaid := over
end Go.Proofs.Ytlibcpboooehlaa.copyBytes
