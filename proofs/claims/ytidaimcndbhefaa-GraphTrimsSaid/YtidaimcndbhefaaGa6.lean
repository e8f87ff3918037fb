/- Texts joined: GrY GtB GuA GuB RegL GuC. -/
import Derived.Test.YtidaimcndbhefaaGa5
import Derived.Lib.IndexLaws
/- graph.Trim: what it works on; its first loop. Conditions: lengths. -/
namespace Go.Proofs.Ytidaimcndbhefaa
set_option linter.unusedVariables false
set_option linter.unusedSimpArgs false
open Go.RowKit Go.Maps
/-- What Trim works on: the graph's box, the result's, the new numbers, the map, what is reached. -/
structure TS (w W : World) (q mb qr : Nat) (vn vr : Value) (N : Nat) (T : List Int) (P : List (Int × Int)) (L : List Bool) : Prop where
  gb : Bk W w.heap.size 25 #[vn, vr]
  rb : Bk W (w.heap.size + 1) 25 #[.slice none 0 0, .slice none 0 0]
  to : Ow iV 3 W (w.heap.size + 2) (.slice (some ⟨q, 0, none⟩) N N) T
  mp : MapIs W (some mb) P
  re : Ow tV 4 W (w.heap.size + 2) (.slice (some ⟨qr, 0, none⟩) N N) L
  ord : w.heap.size + 2 ≤ q ∧ q < mb ∧ mb < qr
  bl : Below w.heap.size w W
section
variable {w W W' : World} {q mb qr : Nat} {vn vr : Value} {N : Nat} {T T' : List Int} {P P' : List (Int × Int)} {L : List Bool}
theorem map_below (h : MapIs W (some mb) P) (hb : Below W.heap.size W W') : MapIs W' (some mb) P := h.kept (Kept.of_below hb (fun _ => False)) (fun _ _ f => f)
theorem TS.below (h : TS w W q mb qr vn vr N T P L) (hb : Below W.heap.size W W') : TS w W' q mb qr vn vr N T P L :=
  ⟨h.gb.below hb h.gb.lt, h.rb.below hb h.rb.lt, h.to.below hb, map_below h.mp hb, h.re.below hb, h.ord, h.bl.trans (hb.mono h.bl.size)⟩
theorem TS.put (h : TS w W q mb qr vn vr N T P L) (hm : MapIs W' (some mb) P') (hk : Kept (fun c => some mb = some c) W W') : TS w W' q mb qr vn vr N T P' L := by
  have hord := h.ord
  have hn : ∀ c, c ≠ mb → ¬ (some mb = some c) := fun c hc e => hc (by injection e with e; exact e.symm)
  refine ⟨hk.bk h.gb (hn _ (by omega)), hk.bk h.rb (hn _ (by omega)), hk.ow h.to (fun c e => hn _ (by injection e with e; have e3 : q = c := e; omega)), hm, hk.ow h.re (fun c e => hn _ (by injection e with e; have e3 : qr = c := e; omega)), hord, h.bl.trans (hk.below h.bl.size (fun c e => by injection e with e; omega))⟩
theorem TS.store (h : TS w W q mb qr vn vr N T P L) {k : Nat} (hk : k < T.length) (z : Int) : TS w (W.setCell ⟨q, k, none⟩ (.int .i64 z)) q mb qr vn vr N (T.set k z) P L := by
  have hord := h.ord
  refine ⟨h.gb.far (p := ⟨q, k, none⟩) (show w.heap.size ≠ q by omega) _, h.rb.far (p := ⟨q, k, none⟩) (show w.heap.size + 1 ≠ q by omega) _, h.to.set hk z, h.mp.kept (Kept.set W q k _) (fun b e e2 => by injection e with e; omega), (h.re.kept (grown_set W ⟨q, k, none⟩ _) (.inr (fun e => by injection e with e; have e3 : qr = q := e; omega))), hord, h.bl.setCell (p := ⟨q, k, none⟩) (show w.heap.size ≤ q by omega) _⟩
end
theorem Kept.bel {S : Nat → Prop} {a b c : World} (h : Kept S a b) (hb : Below a.heap.size b c) : Kept S a c :=
  ⟨hb.os.trans h.os, hb.tape.trans h.tape, hb.output.trans h.output, Nat.le_trans h.size hb.size, fun i hi hn => (hb.block i hi).trans (h.block i hi hn)⟩
theorem Kept.gr {a b : World} {q : Nat} (h : Kept (fun b => b = q) a b) : a.grownBy b (some q) := ⟨h.os, h.tape, h.output, h.size, fun k hk hn => h.block k hk (fun e => hn (by rw [e]))⟩
theorem trim_res {tmps : Array Value} {W : World} {g : Nat} {a b y : Value} (hb : Bk W g 25 #[a, b]) (h2 : tmps.getD 4 undef = .pointer (some ⟨g, 0, none⟩)) (h3 : tmps.getD 5 undef = y) :
    (results Try.f15 tmps).run Try.prog W = .ok (.tuple #[.agg #[a, b], y]) W := by
  have hl := run_loadVar_row (P := Try.prog) W g 25 25 #[a, b] (0, 0) _ hb Try.underlying25 rfl (by kernel_rfl)
  have h2' : tmps[4]?.getD undef = .pointer (some ⟨g, 0, none⟩) := by simpa using h2
  have h3' : tmps[5]?.getD undef = y := by simpa using h3
  simp [results, Try.results15, h2', h3', asAddr, hl]
theorem set_same {α : Type} {l : List α} {k : Nat} {z : α} (h : l[k]? = some z) : l.set k z = l := by
  obtain ⟨h1, h2⟩ := List.getElem?_eq_some_iff.1 h
  subst h2
  exact List.set_getElem_self h1
set_option maxHeartbeats 4000000
set_option maxRecDepth 100000
theorem trim_g (w : World) (g : Gv) (hg : g.At w w.heap.size) (hs : g.Small) (hs2 : g.r.length ≤ 100000) (hpt : ∀ x ∈ g.n, ∀ p ∈ x.ps, (Lit.int .i64 p).wf = true) (hrt : ∀ r ∈ g.r, (Lit.int .i64 r.t).wf = true) (AK : Option Addr) (ck : Nat) (keep : List Int) (hr : Rd iV w w.heap.size AK keep) (hl : keep.length ≤ 100000) :
    Calls Try.prog 15 #[g.v, .slice AK keep.length ck] w fun e w' => ∃ (L : List Bool) (g' : Gv) (q : Nat), e = .returned (.tuple #[g'.v, .slice (some ⟨q, 0, none⟩) g.n.length g.n.length]) ∧ NOwn w' w.heap.size g'.vn g'.n ∧ ROwn w' w.heap.size g'.vr g'.r ∧ Ow iV 3 w' w.heap.size (.slice (some ⟨q, 0, none⟩) g.n.length g.n.length) (toB L 0) ∧
      g'.n.map Nv.m = trimN (pairsB L 0 0) g.n L ∧ g'.r = g.r.map (fun r => ⟨r.s, newP (pairsB L 0 0) r.t⟩) ∧ L.length = g.n.length ∧ (∀ p, hasG g.n.length p = true → (seenG L p = true ↔ Rch g.n (g.r.map (·.t) ++ keep) p)) ∧ Below w.heap.size w w' := by
  have HG := Lib.hid hg
  have HSm := Lib.hid hs
  have HW := Lib.hid (And.intro hpt hrt)
  have HR := Lib.hid hr
  obtain ⟨GA, ca, A2, ca2, ns, rs⟩ := g
  simp only at hs2 HW
  obtain ⟨N, hN⟩ : ∃ N, N = ns.length := ⟨_, rfl⟩
  obtain ⟨M, hM⟩ : ∃ M, M = rs.length := ⟨_, rfl⟩
  obtain ⟨K, hK⟩ : ∃ K, K = keep.length := ⟨_, rfl⟩
  have HN := Lib.hid (And.intro hN hM)
  have HK := Lib.hid hK
  have q0 : (N : Int) ≤ 1000000 := by rw [hN]; exact Int.ofNat_le.2 hs.1
  have q1 : (M : Int) ≤ 100000 := by rw [hM]; exact Int.ofNat_le.2 hs2
  have HLen := Lib.hid (show ((rs.map (·.t)) ++ keep).length ≤ 1000000 ∧ (rs.map (·.t)).length ≤ 1000000 ∧ keep.length ≤ 1000000 from by simp only [List.length_append, List.length_map]; omega)
  unfold Gv.v Gv.vn Gv.vr
  simp only
  rw [← hN, ← hM, ← hK]
  clear hg hs hs2 hpt hrt hr hl hN hM hK
  have hmm := @run_makeMap Try.prog
  go_enter Try.func15, Try.ntmps15
  go_wp2_with (at_make; refine wp_make (f := iV) oneI rfl _ _ rfl 0 rfl (w.heap.size + 2) N _ _ _ _ rfl rfl rfl rfl (by omega) (by decide) (by simp) ?_; rintro q w2 hq ho2 hb2 _; have H2 := Lib.hid (And.intro ho2 hb2); have HQ := Lib.hid (show q = w.heap.size + 2 from by rw [hq]; simp); have hz2 : w.heap.size + 3 ≤ w2.heap.size := (by have := ho2.ge.2; rw [hq] at this; simp at this; omega); clear ho2 hb2 hq)
  obtain ⟨W3, hW3⟩ : ∃ W3, W3 = w2.alloc (.map #[] 0) := ⟨_, rfl⟩
  obtain ⟨mb, hmb⟩ : ∃ mb, mb = w2.heap.size := ⟨_, rfl⟩
  have H3 : Bk W3 w.heap.size 25 #[.slice GA N ca, .slice A2 M ca2] ∧ Bk W3 (w.heap.size + 1) 25 #[.slice none 0 0, .slice none 0 0] ∧ Ow iV 3 W3 (w.heap.size + 2) (.slice (some ⟨q, 0, none⟩) N N) (List.replicate N 0) ∧ MapIs W3 (some mb) [] ∧ Below w.heap.size w W3 ∧ q < mb ∧ mb < W3.heap.size := by
    obtain ⟨o1, o2⟩ := H2.out
    have hg0 := ((Bk.new w 25 #[.slice GA N ca, .slice A2 M ca2]).alloc (.cells #[.slice none 0 0, .slice none 0 0] 25)).below o2 (by omega)
    have hg1 : Bk ((w.alloc (.cells #[.slice GA N ca, .slice A2 M ca2] 25)).alloc (.cells #[.slice none 0 0, .slice none 0 0] 25)) (w.heap.size + 1) 25 #[.slice none 0 0, .slice none 0 0] := by
      have := Bk.new (w.alloc (.cells #[.slice GA N ca, .slice A2 M ca2] 25)) 25 #[.slice none 0 0, .slice none 0 0]
      simpa using this
    have hg2 := hg1.below o2 (by omega)
    have b1 : Below w.heap.size w w2 := (((Below.refl _ _).alloc (Nat.le_refl _) _).alloc (by simp) _).trans (o2.mono (by omega))
    rw [hW3, hmb]
    exact ⟨hg0.alloc _, hg2.alloc _, o1.alloc _, tighten (l := []) (World.ownsMap_made w2 Try.prog 3 (plainElem Try.prog 3)), b1.alloc b1.size _, o1.ge.2, by simp⟩
  rw [← hmb, ← hW3]
  have H3 := Lib.hid H3
  clear hmb hW3 hz2 hmm H2
  refine trim_r _ _ _ w w.heap.size (mb + 1) GA A2 AK ca ca2 N M K ck ns rs keep (Lib.hid HN.out.1) (Lib.hid HN.out.2) HK HG HSm (Lib.hid H3.out.2.2.2.2.1) H3.out.1 (Lib.hid ((HR.out.below H3.out.2.2.2.2.1).more H3.out.2.2.2.2.1.size)) HLen (Lib.hid (by have := H3.out.2.2.2.2.2; omega)) rfl rfl rfl ?_
  intro vals w4 hG h26 h27 h28
  obtain ⟨qr, L, h26v, hre, hLl, hLs⟩ := h26
  unfold IsV at h27 h28
  simp only [putD, Act.put, List.setIfInBounds_toArray, List.set_cons_zero, List.set_cons_succ, h26v, h27, h28]
  have H4 := Lib.hid (show TS w w4 q mb qr (.slice GA N ca) (.slice A2 M ca2) N (List.replicate N 0) [] L from by
    obtain ⟨o1, o2, o3, o4, o5, o6, o7⟩ := H3.out
    have hqr := hre.ge.1
    have hqq := HQ.out
    exact ⟨o1.below hG o1.lt, o2.below hG o2.lt, o3.below hG, map_below o4 hG, hre.mono (by omega), ⟨by omega, o6, by omega⟩, o5.trans (hG.mono o5.size)⟩)
  have HL := Lib.hid (And.intro hLl hLs)
  clear h26v h27 h28 hre hLl hLs hG
  go_wp2_with fail
  go_loopw [28] (fun i W => ∃ (k : Nat) (T : List Int), i = .int .i64 k ∧ k ≤ N ∧ Hid (T.length = N ∧ T = toB (L.take k) 0 ++ List.replicate (N - k) 0) ∧ TS w W q mb qr (.slice GA N ca) (.slice A2 M ca2) N T (pairsB (L.take k) 0 0) L) (fun i _ => N - (Go.RowKit.intOf i).toNat)
  case atStart => exact ⟨0, _, rfl, Nat.zero_le _, Lib.hid ⟨List.length_replicate, by simp [toB]⟩, H4.out⟩
  case round =>
    obtain ⟨k, T, rfl, hk, hT, hS⟩ := hrel
    by_cases hlt : k < N
    · have hkL : k < L.length := by rw [HL.out.1]; exact hlt
      obtain ⟨y, hy⟩ : ∃ y, y = L[k] := ⟨_, rfl⟩
      have r0 : wr.cell? ⟨qr, k, none⟩ = some (.bool y) := by rw [hy]; exact hS.re.cell hkL
      have p1 : (0 : Int) ≤ (k : Int) := by omega
      have p2 : (k : Int) < (N : Int) := by omega
      have HS := Lib.hid hS
      have HY := Lib.hid (show L[k]? = some y from by rw [hy]; exact List.getElem?_eq_getElem hkL)
      have hTn : toB (L.take (k + 1)) 0 ++ List.replicate (N - (k + 1)) 0 = T.set k (if y = true then ((((L.take k).count true : Nat) : Int) + 1) else 0) := by
        rw [hT.out.2, List.take_succ_eq_append_getElem hkL, toB_snoc, ← hy]
        have e1 : (toB (L.take k) 0).length = k := by rw [toB_len, List.length_take]; omega
        rw [List.set_append_right _ _ (by omega), e1, Nat.sub_self, show N - k = (N - (k + 1)) + 1 by omega, List.replicate_succ, List.set_cons_zero]
        simp
      have HTn := Lib.hid hTn
      have hTl := hT.out.1
      clear hy hTn hS
      cases y with
      | false =>
        go_wp2_with fail
        go_roundw
        case rel =>
          obtain ⟨hkL, e⟩ := List.getElem?_eq_some_iff.1 HY.out
          refine ⟨k + 1, T, by go_num, by omega, Lib.hid ⟨hTl, ?_⟩, ?_⟩
          · rw [HTn.out]
            simp only [Bool.false_eq_true, if_false]
            have : T[k]? = some 0 := by
              rw [hT.out.2, List.getElem?_append_right (by rw [toB_len, List.length_take]; omega), toB_len, List.length_take, show k - min k L.length = 0 by omega, List.getElem?_replicate, if_pos (by omega)]
            exact (set_same this).symm
          · have e2 : pairsB (L.take (k + 1)) 0 0 = pairsB (L.take k) 0 0 := by
              rw [List.take_succ_eq_append_getElem hkL, pairs_snoc, e]; simp
            rw [e2]
            exact HS.out
        case measure => simp [Go.RowKit.intOf]; omega
      | true =>
        obtain ⟨pl, hpl⟩ : ∃ pl, pl = (pairsB (L.take k) 0 0).length := ⟨_, rfl⟩
        have hpl2 : pl = (L.take k).count true := by rw [hpl, pairs_len]
        have hpk : (pl : Int) ≤ (k : Int) := by
          have h1 : (L.take k).count true ≤ (L.take k).length := List.count_le_length
          rw [List.length_take] at h1
          omega
        have hlen : ∀ (ty : TypeId), (Builtin.len_ #[66] ty #[.map (some mb)]).run Try.prog wr = .ok (.int .i64 pl) wr := by rw [hpl]; exact HS.out.mp.len
        have HP := Lib.hid (And.intro hpl hpl2)
        have hw1 : (Lit.int .i64 ((k : Int) + 1)).wf = true := wfI (by omega) (by omega)
        have hw2 : (Lit.int .i64 ((pl : Int) + 1)).wf = true := wfI (by omega) (by omega)
        have HW12 := Lib.hid (And.intro hw1 hw2)
        have hp0 : (0 : Int) ≤ (pl : Int) := by omega
        have HTl := Lib.hid hTl
        clear hpl hpl2 hkL hw1 hw2 hTl
        go_wp2_with (refine wp_put_is rfl (.tmp 34) (.tmp 36) (.tmp 39) rfl rfl HS.out.mp ((k : Int) + 1) ((pl : Int) + 1) rfl rfl HW12.out.1 HW12.out.2 (by rw [← HP.out.1]; omega) ?_; intro w5 hm5 hk5; have hP5 : putI (pairsB (L.take k) 0 0) ((k : Int) + 1) ((pl : Int) + 1) = pairsB (L.take (k + 1)) 0 0 := (by obtain ⟨hkL, e⟩ := List.getElem?_eq_some_iff.1 HY.out; rw [HP.out.1]; exact put_pairs L k hkL e); rw [hP5] at hm5; have H5 := Lib.hid (HS.out.put hm5 hk5); have hlk := hm5.look HW12.out.1; have hz : (lookI (pairsB (L.take (k + 1)) 0 0) ((k : Int) + 1)).getD 0 = (pl : Int) + 1 := (by obtain ⟨hkL, e⟩ := List.getElem?_eq_some_iff.1 HY.out; rw [HP.out.2]; exact look_pairs L k hkL e); rw [hz] at hlk; have hTc := H5.out.to.cell (j := k) (by rw [HTl.out]; omega); have hTf := H5.out.to.free k; unfold iV at hTc; have H6 := Lib.hid (H5.out.store (k := k) (by rw [HTl.out]; omega) ((pl : Int) + 1)); clear hm5 hk5 hP5 hz)
        go_roundw
        case rel =>
          have X : ∃ (k' : Nat) (T' : List Int), (Value.int .i64 ((k : Int) + 1)) = .int .i64 k' ∧ k' ≤ N ∧ Hid (T'.length = N ∧ T' = toB (L.take k') 0 ++ List.replicate (N - k') 0) ∧ TS w (w5.setCell ⟨q, k, none⟩ (.int .i64 ((pl : Int) + 1))) q mb qr (.slice GA N ca) (.slice A2 M ca2) N T' (pairsB (L.take k') 0 0) L :=
            ⟨k + 1, T.set k ((pl : Int) + 1), by go_num, by omega, Lib.hid ⟨by rw [List.length_set]; exact HTl.out, by rw [HTn.out, HP.out.2]; rfl⟩, H6.out⟩
          first | exact X | (obtain ⟨k', T', x1, x2, x3, x4⟩ := X; exact ⟨_, _, _, ⟨k', x1, x2, T', x3, x4⟩, rfl, rfl, rfl⟩)
        case measure => simp [Go.RowKit.intOf]; omega
    · have hkN : k = N := by omega
      have hTe : T = toB L 0 := by rw [hT.out.2, hkN, Nat.sub_self, List.take_of_length_le (by rw [HL.out.1]; exact Nat.le_refl _)]; simp
      have hPe : pairsB (L.take k) 0 0 = pairsB L 0 0 := by rw [List.take_of_length_le (by rw [HL.out.1]; omega)]
      rw [hTe, hPe] at hS
      have HS := Lib.hid hS
      clear hS hT hTe hPe hkN
      have g0 := HS.out.gb.two.1
      have hgl := HS.out.gb.lt
      go_wp2_with fail
      obtain ⟨W1, hW1⟩ : ∃ W1, W1 = wr := ⟨_, rfl⟩
      rw [← hW1] at HS ⊢
      clear hlt g0 hgl hW1
      obtain ⟨ob, hob⟩ : ∃ ob, W1.heap.size = ob := ⟨_, rfl⟩
      rw [hob]
      have HOb := Lib.hid hob.symm
      clear hob
      go_loopw [51] (fun i W => ∃ (k m : Nat) (VA : Option Addr) (vc : Nat) (xs : List Nv), i = .int .i64 k ∧ k ≤ N ∧ Hid (xs.map Nv.m = trimN (pairsB L 0 0) (ns.take k) (L.take k)) ∧ Hid (xs.length = m ∧ m ≤ k) ∧ NOwn W (ob + 1) (.slice VA m vc) xs ∧ Bk W ob 25 #[.slice VA m vc, .slice none 0 0] ∧ Below ob W1 W) (fun i _ => N - (Go.RowKit.intOf i).toNat)
      case atStart =>
        refine ⟨0, 0, none, 0, [], rfl, Nat.zero_le _, Lib.hid rfl, Lib.hid ⟨rfl, Nat.le_refl _⟩, NOwn.nil _ _, ?_, ?_⟩
        · rw [HOb.out]; exact Bk.new _ _ _
        · rw [HOb.out]; exact Gw.alloc _ _
      case round =>
        obtain ⟨k, m, VA, vc, xs, rfl, hk, hm, hmx, ho, hb1, hB⟩ := hrel
        have hsz := hb1.lt
        have hSr : TS w wr q mb qr (.slice GA N ca) (.slice A2 M ca2) N (toB L 0) (pairsB L 0 0) L := HS.out.below (HOb.out ▸ hB)
        by_cases hlt : k < N
        · have hkl : k < ns.length := by rw [← HN.out.1]; exact hlt
          have hkL : k < L.length := by rw [HL.out.1]; exact hlt
          obtain ⟨x, hx⟩ : ∃ x, x = ns[k] := ⟨_, rfl⟩
          obtain ⟨y, hy⟩ : ∃ y, y = L[k] := ⟨_, rfl⟩
          have hbw : Below w.heap.size w wr := hSr.bl
          obtain ⟨ad, rfl, hc2, hc3, hxa⟩ : ∃ ad, GA = some ad ∧ wr.cell? (ad.add (k * 2)) = some x.vp ∧ wr.cell? ⟨(ad.add (k * 2)).block, (ad.add (k * 2)).off + 1, none⟩ = some x.vd ∧ x.At wr wr.heap.size := by
            obtain ⟨ad, e, _, h1, h2, h3⟩ := (HG.out.n.below hbw) k hkl
            exact ⟨ad, e, by rw [hx]; exact h1, by rw [hx]; exact h2, by rw [hx]; exact h3.more hbw.size⟩
          have hsm := HSm.out.2.2 x (by rw [hx]; exact List.getElem_mem _)
          have hwf := HW.out.1 x (by rw [hx]; exact List.getElem_mem _)
          have HC1 := Lib.hid (fun W (hb : Below wr.heap.size wr W) => numbered_c W x.A x.c mb x.ps (pairsB L 0 0) (hxa.up hb).p (map_below hSr.mp hb) (by omega) hwf)
          have HC2 := Lib.hid (fun W (hb : Below wr.heap.size wr W) => clone_c x.bs x.D x.d W (hxa.up hb).b (by omega))
          have hmm : ∀ z : Nv, z.m = (x.ps.map (newP (pairsB L 0 0)), x.bs) → y = true → (xs ++ [z]).map Nv.m = trimN (pairsB L 0 0) (ns.take (k + 1)) (L.take (k + 1)) ∧ (xs ++ [z]).length = m + 1 ∧ m + 1 ≤ k + 1 := fun z hz hyt => by
            rw [take_snoc ns k hkl, take_snoc L k hkL, trimN_snoc _ _ _ _ _ (by rw [List.length_take, List.length_take]; omega), ← hm.out, ← hy, hyt, List.map_append, List.length_append, hmx.out.1, if_pos rfl, ← hx]
            simp [hz, hmx.out.2]
          have hno : y = false → xs.map Nv.m = trimN (pairsB L 0 0) (ns.take (k + 1)) (L.take (k + 1)) := fun hyf => by
            rw [take_snoc ns k hkl, take_snoc L k hkL, trimN_snoc _ _ _ _ _ (by rw [List.length_take, List.length_take]; omega), ← hm.out, ← hy, hyf]
            simp
          have HMM := Lib.hid hmm
          have HNo := Lib.hid hno
          obtain ⟨z, hz⟩ : ∃ z, z = (if y = true then ((0 + (L.take k).count true : Nat) : Int) + 1 else 0) := ⟨_, rfl⟩
          have hto : wr.cell? ⟨q, k, none⟩ = some (.int .i64 z) := by
            have hkt : k < (toB L 0).length := by rw [toB_len]; exact hkL
            have h1 := hSr.to.cell hkt
            have h2 := toB_get L k hkL 0
            rw [List.getElem?_eq_getElem hkt, ← hy, ← hz] at h2
            injection h2 with h2
            rw [h2] at h1
            exact h1
          have hz1 : y = true → (0 : Int) < z := fun e => by rw [hz, if_pos e]; omega
          have hz2 : y = false → z = 0 := fun e => by rw [hz, if_neg (by simp [e])]
          obtain ⟨xA, xc, xD, xd, xps, xbs⟩ := x
          unfold Nv.vp at hc2
          unfold Nv.vd at hc3
          unfold NewP at HC2
          simp only at HC1 HC2 hc2 hc3 HMM
          obtain ⟨xn, hxn⟩ : ∃ n, n = xps.length := ⟨_, rfl⟩
          obtain ⟨xm, hxm⟩ : ∃ n, n = xbs.length := ⟨_, rfl⟩
          rw [← hxn] at hc2 HC1
          rw [← hxm] at hc3 HC2
          have p1 : (0 : Int) ≤ (k : Int) := by omega
          have p2 : (k : Int) < (N : Int) := by omega
          have HX := Lib.hid (And.intro hxn (And.intro hxm hmx.out.1))
          have hmN : (m : Int) ≤ 1000000 := by have := hmx.out.2; omega
          have HO := Lib.hid (And.intro ho (And.intro hb1 hB))
          have hcl := cell_lt hc2
          have hcl' : (ad.add (k * 2)).block < wr.heap.size := hcl
          have hql := hSr.to.ge.2
          have hva : (∀ a, VA = some a → ob + 1 ≤ a.block ∧ a.block < wr.heap.size) := fun a e => by
            subst e
            exact ⟨(ho.row.lt a.block rfl).1, (ho.row.lt a.block rfl).2⟩
          have HVA := Lib.hid hva
          have HMX := Lib.hid hmx.out
          have HB1 := Lib.hid hb1
          clear hx hxa hsm hmm hno hxn hxm hm hmx ho hB hkl hkL hbw hcl hva hwf hy hz hSr hb1
          cases y with
          | false =>
            obtain rfl := hz2 rfl
            have HX1 := Lib.hid (HNo.out rfl)
            clear hz1 hz2
            go_wp2_with fail
            go_roundw
            case rel =>
              have X : ∃ (k' m' : Nat) (VA' : Option Addr) (vc' : Nat) (xs' : List Nv), (Value.int .i64 ((k : Int) + 1)) = .int .i64 k' ∧ k' ≤ N ∧ Hid (xs'.map Nv.m = trimN (pairsB L 0 0) (ns.take k') (L.take k')) ∧ Hid (xs'.length = m' ∧ m' ≤ k') ∧ NOwn (wr.alloc (.cells #[.slice xA xn xc, .slice xD xm xd] 53)) (ob + 1) (.slice VA' m' vc') xs' ∧ Bk (wr.alloc (.cells #[.slice xA xn xc, .slice xD xm xd] 53)) ob 25 #[.slice VA' m' vc', .slice none 0 0] ∧ Below ob W1 (wr.alloc (.cells #[.slice xA xn xc, .slice xD xm xd] 53)) :=
                ⟨k + 1, m, VA, vc, xs, by go_num, by omega, HX1, Lib.hid ⟨HMX.out.1, by have := HMX.out.2; omega⟩, HO.out.1.below (Gw.alloc _ _), HO.out.2.1.alloc _, HO.out.2.2.alloc (by omega) _⟩
              exact X
            case measure => simp [Go.RowKit.intOf]; omega
          | true =>
            have hz3 : (0 : Int) < z := hz1 rfl
            clear hz1 hz2
            go_wp2_with fail
            obtain ⟨W0, hW0⟩ : ∃ W0, W0 = wr.alloc (.cells #[.slice xA xn xc, .slice xD xm xd] 53) := ⟨_, rfl⟩
            have b0 : Below wr.heap.size wr W0 := by rw [hW0]; exact Gw.alloc _ _
            have k0 : Bk W0 wr.heap.size 53 #[.slice xA xn xc, .slice xD xm xd] := by rw [hW0]; exact Bk.new _ _ _
            have z0 : W0.heap.size = wr.heap.size + 1 := by rw [hW0]; simp
            have hW0' := Lib.hid hW0
            rw [← hW0]
            clear hW0
            have B0 := Lib.hid b0
            have K0 := Lib.hid k0
            have Z0 := Lib.hid z0
            have Q0 := Lib.hid (HO.out.2.1.below b0 hsz)
            have hw0 : W0.cell? ⟨ob, 0, none⟩ = some (.slice VA m vc) ∧ W0.cell? ⟨wr.heap.size, 0, none⟩ = some (.slice xA xn xc) ∧ W0.cell? ⟨wr.heap.size, 1, none⟩ = some (.slice xD xm xd) := ⟨Q0.out.cell 0, k0.cell 0, k0.cell 1⟩
            clear b0 k0 z0
            refine region_by_spineU 13 [5, 8, 9, 10, 11, 12, 13] [(0, 61, .pointer (some ⟨ob, 0, none⟩)), (1, 62, .slice VA m vc), (2, 63, .pointer (some ⟨wr.heap.size, 0, none⟩)), (3, 64, .slice xA xn xc), (4, 65, .map (some mb)), (6, 67, .pointer (some ⟨wr.heap.size, 1, none⟩)), (7, 68, .slice xD xm xd)]
              (fun W => W.cell? ⟨ob, 0, none⟩ = some (.slice VA m vc) ∧ W.cell? ⟨wr.heap.size, 0, none⟩ = some (.slice xA xn xc) ∧ W.cell? ⟨wr.heap.size, 1, none⟩ = some (.slice xD xm xd)) (by kernel_rfl) (by kernel_rfl) (by kernel_rfl) (by kernel_rfl) (by kernel_rfl) (by kernel_rfl) (by kernel_rfl) hw0 ?_ ?_
            · intro y hy V ρ hV hρ hcst
              obtain ⟨k1, k2, k3⟩ := hV
              have e7 : ρ (.tmp 7) = .map (some mb) := (hρ 7).trans (by kernel_rfl)
              have e10 : ρ (.tmp 10) = .pointer (some ⟨ob, 0, none⟩) := (hρ 10).trans (by kernel_rfl)
              have e12 : ρ (.tmp 12) = .pointer (some ⟨wr.heap.size, 0, none⟩) := (hρ 12).trans (by kernel_rfl)
              have e61 : ρ (.tmp 61) = .pointer (some ⟨ob, 0, none⟩) := (hρ 61).trans (by kernel_rfl)
              have e63 : ρ (.tmp 63) = .pointer (some ⟨wr.heap.size, 0, none⟩) := (hρ 63).trans (by kernel_rfl)
              have e67 : ρ (.tmp 67) = .pointer (some ⟨wr.heap.size, 1, none⟩) := (hρ 67).trans (by kernel_rfl)
              clear hρ
              simp only [List.mem_cons, List.not_mem_nil, or_false] at hy
              rcases hy with rfl | rfl | rfl | rfl | rfl | rfl | rfl
              all_goals
                refine ⟨_, rfl, ?_⟩
                go_simp
                try rfl
            simp only [putA, putD, Act.put, List.setIfInBounds_toArray, List.set_cons_zero, List.set_cons_succ]
            refine spineU_list rfl rfl rfl ?_
            go_wp2_with fail
            refine Calls.mono (HC1.out _ (B0.out.trans ((Gw.drew W0).mono B0.out.size))) ?_
            rintro r2 V1 ⟨PA, pc, rfl, ho1, v1⟩
            have b1 : Below W0.heap.size W0 V1 := (Gw.drew W0).trans v1
            have B1 := Lib.hid b1
            have O1 := Lib.hid (show Ow iV 3 V1 W0.heap.size (.slice PA xn pc) (xps.map (newP (pairsB L 0 0))) from ho1)
            have K1 := Lib.hid (K0.out.below b1 K0.out.lt)
            have Q1 := Lib.hid (Q0.out.below b1 Q0.out.lt)
            have hw1 : V1.cell? ⟨ob, 0, none⟩ = some (.slice VA m vc) ∧ V1.cell? ⟨wr.heap.size, 0, none⟩ = some (.slice xA xn xc) ∧ V1.cell? ⟨wr.heap.size, 1, none⟩ = some (.slice xD xm xd) := ⟨Q1.out.cell 0, K1.out.cell 0, K1.out.cell 1⟩
            have HW1 := Lib.hid hw1
            clear b1 v1 ho1 hw1 hw0
            go_wp2_with fail
            refine ⟨rfl, (by first | exact HW1.out | exact fun _ => HW1.out), ?_⟩
            refine spineU_list rfl rfl rfl ?_
            go_wp2_with fail
            refine Calls.mono (HC2.out _ (B0.out.trans (B1.out.mono B0.out.size))) ?_
            rintro r3 V2 ⟨DA, dc, rfl, ho2, v2⟩
            have B2 := Lib.hid v2
            have O2 := Lib.hid ho2
            have K2 := Lib.hid (K1.out.below v2 K1.out.lt)
            have Q2 := Lib.hid (Q1.out.below v2 Q1.out.lt)
            have hw2 : V2.cell? ⟨ob, 0, none⟩ = some (.slice VA m vc) ∧ V2.cell? ⟨wr.heap.size, 0, none⟩ = some (.slice xA xn xc) ∧ V2.cell? ⟨wr.heap.size, 1, none⟩ = some (.slice xD xm xd) := ⟨Q2.out.cell 0, K2.out.cell 0, K2.out.cell 1⟩
            have HW2 := Lib.hid hw2
            clear v2 ho2 hw2
            go_wp2_with fail
            refine ⟨rfl, (by first | exact HW2.out | exact fun _ => HW2.out), ?_⟩
            refine spineU_list rfl rfl rfl ?_
            go_wp2_with fail
            refine ⟨rfl, (by first | exact HW2.out | exact fun _ => HW2.out), ?_⟩
            refine spineU_list rfl rfl rfl ?_
            go_wp2_with fail
            have b3 := Gw.alloc V2 (.cells #[.slice PA xn pc, .slice DA xm dc] 53)
            have E3 := Lib.hid (Bk.new V2 53 #[.slice PA xn pc, .slice DA xm dc])
            have B3 := Lib.hid b3
            have Q3 := Lib.hid (Q2.out.below b3 Q2.out.lt)
            have hw3 : (V2.alloc (.cells #[.slice PA xn pc, .slice DA xm dc] 53)).cell? ⟨ob, 0, none⟩ = some (.slice VA m vc) ∧ (V2.alloc (.cells #[.slice PA xn pc, .slice DA xm dc] 53)).cell? ⟨wr.heap.size, 0, none⟩ = some (.slice xA xn xc) ∧ (V2.alloc (.cells #[.slice PA xn pc, .slice DA xm dc] 53)).cell? ⟨wr.heap.size, 1, none⟩ = some (.slice xD xm xd) := ⟨Q3.out.cell 0, (K2.out.below b3 K2.out.lt).cell 0, (K2.out.below b3 K2.out.lt).cell 1⟩
            have HW3 := Lib.hid hw3
            clear b3 hw3
            refine ⟨rfl, (by first | exact HW3.out | exact fun _ => HW3.out), ?_⟩
            refine spineU_list rfl rfl rfl ?_
            obtain ⟨i0, hi, hz0, hz1, hz2⟩ := info_parts infoN
            have hb03 : Below wr.heap.size wr (V2.alloc (.cells #[.slice PA xn pc, .slice DA xm dc] 53)) := B0.out.trans ((B1.out.trans (B2.out.trans (B3.out.mono B2.out.size) |>.mono B1.out.size)).mono B0.out.size)
            have HB03 := Lib.hid hb03
            have ho3 := ownsRow_below HO.out.1.row hb03
            rw [HX.out.2.2] at ho3
            refine wp_appR 2 i0 Try.underlying22 hi hz0 hz1 hz2 (by rfl) (by decide) rfl (.tmp 62) (.tmp 71) rfl (ob + 1) _ m _ rfl ho3 ⟨V2.heap.size, 0, none⟩ 1 1 [.slice PA xn pc, .slice DA xm dc] rfl rfl (fun j u hu => ?_) (fun u hu => ?_) (by unfold maxLen; omega) (by omega) (by have := hb03.size; omega) ?_
            · have hj : j < 2 := by have := (List.getElem?_eq_some_iff.1 hu).1; simpa using this
              rw [addr_at, E3.out.cell]
              rcases (show j = 0 ∨ j = 1 by omega) with rfl | rfl
              · simpa using hu
              · simpa using hu
            · simp only [List.mem_cons, List.not_mem_nil, or_false] at hu
              rcases hu with rfl | rfl <;> rfl
            intro v5 w5 ho5 hb5 hg5 hv5
            obtain ⟨A5, c5, rfl⟩ := own_form ho5
            have hgq : ∀ c, (Value.slice VA m vc).ownBlock = some c → ob + 1 ≤ c ∧ c < wr.heap.size := fun c e => by
              obtain ⟨a, e1, e2⟩ := own_sl e
              rw [← e2]; exact HVA.out a e1
            have Q5 := Lib.hid ((hg5.block ob (Nat.lt_of_lt_of_le hsz hb03.size) (fun e => by have := (hgq ob e.symm).1; omega)).trans Q3.out)
            have K5 := Lib.hid ((hg5.block wr.heap.size (Nat.lt_of_lt_of_le (by have := Z0.out; have := B0.out.size; omega) (show W0.heap.size ≤ _ from by have := B1.out.size; have := B2.out.size; have := B3.out.size; omega)) (fun e => by have := (hgq _ e.symm).2; omega)).trans (K2.out.below B3.out K2.out.lt))
            have hw5 : w5.cell? ⟨ob, 0, none⟩ = some (.slice VA m vc) ∧ w5.cell? ⟨wr.heap.size, 0, none⟩ = some (.slice xA xn xc) ∧ w5.cell? ⟨wr.heap.size, 1, none⟩ = some (.slice xD xm xd) := ⟨Bk.cell Q5.out 0, Bk.cell K5.out 0, Bk.cell K5.out 1⟩
            have HW5 := Lib.hid hw5
            have hN5 : NOwn w5 (ob + 1) (.slice A5 (m + 1) c5) (xs ++ [⟨PA, pc, DA, dc, xps.map (newP (pairsB L 0 0)), xbs⟩]) := by
              have z1 := B1.out.size
              have z2 := B2.out.size
              have z0 := B0.out.size
              refine NOwn.snoc HO.out.1 hb03 ⟨?_, ?_⟩ ⟨fun c e => ?_, fun c e => ?_, fun c e => ?_⟩ ?_ hg5 hv5
              · have h := (O1.out.below (B2.out.trans (B3.out.mono B2.out.size))).mono (show ob + 1 ≤ W0.heap.size by omega)
                rw [show (⟨PA, pc, DA, dc, xps.map (newP (pairsB L 0 0)), xbs⟩ : Nv).vp = .slice PA xn pc from by show Value.slice PA (xps.map (newP (pairsB L 0 0))).length pc = _; rw [List.length_map, ← HX.out.1]]
                exact h
              · have h := (O2.out.below B3.out).mono (show ob + 1 ≤ V1.heap.size by omega)
                rw [show (⟨PA, pc, DA, dc, xps.map (newP (pairsB L 0 0)), xbs⟩ : Nv).vd = .slice DA xm dc from by rw [HX.out.2.1]; rfl]
                exact h
              · have h := O1.out
                rw [show (⟨PA, pc, DA, dc, xps.map (newP (pairsB L 0 0)), xbs⟩ : Nv).vp = .slice PA xn pc from by show Value.slice PA (xps.map (newP (pairsB L 0 0))).length pc = _; rw [List.length_map, ← HX.out.1]] at e
                have := (h.lt c e).1
                omega
              · have h := O2.out
                rw [HX.out.2.1] at h
                have := (h.lt c e).1
                omega
              · intro e2
                rw [show (⟨PA, pc, DA, dc, xps.map (newP (pairsB L 0 0)), xbs⟩ : Nv).vp = .slice PA xn pc from by show Value.slice PA (xps.map (newP (pairsB L 0 0))).length pc = _; rw [List.length_map, ← HX.out.1]] at e
                have h := O1.out
                have h2 := O2.out
                rw [HX.out.2.1] at h2
                have g1 := (h.lt c e).2
                have g2 := (h2.lt c e2).1
                omega
              · rw [HX.out.2.2]
                have h := ho5
                have ec : (⟨PA, pc, DA, dc, xps.map (newP (pairsB L 0 0)), xbs⟩ : Nv).cs = [.slice PA xn pc, .slice DA xm dc] := by
                  show [Value.slice PA (xps.map (newP (pairsB L 0 0))).length pc, Value.slice DA xbs.length dc] = _
                  rw [List.length_map, ← HX.out.1, ← HX.out.2.1]
                rw [ec]
                exact h
            have H5 := Lib.hid (And.intro hN5 (show Below ob W1 w5 from (HO.out.2.2.trans (hb03.mono (by omega))).trans ((Below.refl _ _).grown hg5 (by have := hb03.size; omega) (fun c e => by have := (hgq c e).1; omega))))
            have F5 := Lib.hid (Bk.free Q5.out 0)
            clear ho3 ho5 hb5 hg5 hv5 hgq hw5 hi hz0 hz1 hz2 hb03 hN5
            refine ⟨rfl, (by first | exact HW5.out | exact fun _ => HW5.out), ?_⟩
            refine spineU_list rfl rfl rfl ?_
            go_wp2_with fail
            refine ⟨rfl, (by first | exact HW5.out | exact fun _ => HW5.out), ?_⟩
            refine spineU_list rfl rfl rfl ?_
            have c52 := Bk.cell Q5.out 0
            have f52 := F5.out
            have Q6 := Lib.hid (Bk.set Q5.out 0 (.slice A5 (m + 1) c5))
            go_wp2_with fail
            refine ⟨rfl, trivial, ?_⟩
            unfold SpineU
            have hnq : ob ∉ (Value.slice A5 (m + 1) c5).ownBlock.toList ++ blksN (xs ++ [⟨PA, pc, DA, dc, xps.map (newP (pairsB L 0 0)), xbs⟩]) := fun h => by
              have := blks_ge H5.out.1 ob h
              omega
            have H6 := Lib.hid (And.intro (H5.out.1.grown (grown_set w5 ⟨ob, 0, none⟩ (.slice A5 (m + 1) c5)) hnq) (H5.out.2.trans ((Below.refl _ _).setCell (p := ⟨ob, 0, none⟩) (Nat.le_refl _) (.slice A5 (m + 1) c5))))
            clear c52 f52 hnq
            go_wp2_with fail
            go_roundw
            case rel =>
              have hX := HMM.out ⟨PA, pc, DA, dc, xps.map (newP (pairsB L 0 0)), xbs⟩ rfl (by first | rfl | trivial)
              have X : ∃ (k' m' : Nat) (VA' : Option Addr) (vc' : Nat) (xs' : List Nv), (Value.int .i64 ((k : Int) + 1)) = .int .i64 k' ∧ k' ≤ N ∧ Hid (xs'.map Nv.m = trimN (pairsB L 0 0) (ns.take k') (L.take k')) ∧ Hid (xs'.length = m' ∧ m' ≤ k') ∧ NOwn (w5.setCell ⟨ob, 0, none⟩ (.slice A5 (m + 1) c5)) (ob + 1) (.slice VA' m' vc') xs' ∧ Bk (w5.setCell ⟨ob, 0, none⟩ (.slice A5 (m + 1) c5)) ob 25 #[.slice VA' m' vc', .slice none 0 0] ∧ Below ob W1 (w5.setCell ⟨ob, 0, none⟩ (.slice A5 (m + 1) c5)) :=
                ⟨k + 1, m + 1, A5, c5, _, by go_num, by omega, Lib.hid hX.1, Lib.hid hX.2, H6.out.1, Q6.out, H6.out.2⟩
              first | exact X | exact ⟨_, _, _, _, _, _, _, _, _, _, _, _, _, _, _, _, _, _, _, _, _, _, _, _, _, _, X, rfl⟩
            case measure => simp [Go.RowKit.intOf]; omega
        · have hkN : k = N := by omega
          have hfin : xs.map Nv.m = trimN (pairsB L 0 0) ns L := by
            have := hm.out
            rwa [List.take_of_length_le (by rw [← HN.out.1]; omega), List.take_of_length_le (by rw [HL.out.1]; omega)] at this
          have HNod := Lib.hid (And.intro ho (And.intro hfin hmx.out))
          have HSr := Lib.hid hSr
          have HB2 := Lib.hid (And.intro hb1 hB)
          have g0 := hSr.gb.two.2
          clear hkN hfin ho hSr hB hm hmx hb1
          go_wp2_with fail
          obtain ⟨W2, hW2⟩ : ∃ W2, W2 = wr := ⟨_, rfl⟩
          rw [← hW2] at HNod HSr HB2 hsz ⊢
          clear hW2 g0
          have HM9 := Lib.hid hsz
          clear hlt
          go_loopw [78] (fun i W => ∃ (k : Nat) (RA : Option Addr) (rc : Nat) (ys : List Rv), i = .int .i64 k ∧ k ≤ M ∧ Hid (ys = (rs.take k).map (fun r => (⟨r.s, newP (pairsB L 0 0) r.t⟩ : Rv))) ∧ ROwn W W2.heap.size (.slice RA k rc) ys ∧ Bk W ob 25 #[.slice VA m vc, .slice RA k rc] ∧ Kept (fun b => b = ob) W2 W) (fun i _ => M - (Go.RowKit.intOf i).toNat)
          case atStart => exact ⟨0, none, 0, [], rfl, Nat.zero_le _, Lib.hid rfl, ROwn.nil _ _, HB2.out.1, Kept.refl _ _⟩
          case round =>
            obtain ⟨k, RA, rc, ys, rfl, hk, hys, hro, hb1, hK⟩ := hrel
            have hobs : ob < wr.heap.size := hb1.lt
            by_cases hlt : k < M
            · have hkl : k < rs.length := by rw [← HN.out.2]; exact hlt
              obtain ⟨x, hx⟩ : ∃ x, x = rs[k] := ⟨_, rfl⟩
              have hbw : Below w.heap.size w wr := HSr.out.bl.trans (hK.below HSr.out.bl.size (fun c e => by rw [e]; have h1 := HOb.out; have h2 := HS.out.bl.size; omega))
              obtain ⟨ad, rfl, hc2, hc3⟩ : ∃ ad, A2 = some ad ∧ wr.cell? (ad.add (k * 2)) = some (.string x.s) ∧ wr.cell? ⟨(ad.add (k * 2)).block, (ad.add (k * 2)).off + 1, none⟩ = some (.int .i64 x.t) := by
                obtain ⟨ad, e, _, h1, h2⟩ := (HG.out.r.below hbw) k hkl
                exact ⟨ad, e, by rw [hx]; exact h1, by rw [hx]; exact h2⟩
              have hwf := HW.out.2 x (by rw [hx]; exact List.getElem_mem _)
              have hmp : MapIs wr (some mb) (pairsB L 0 0) := HSr.out.mp.kept hK (fun b e e2 => by injection e with e; have h1 := HOb.out; have h2 := HS.out.mp.lt b (by rw [e]); omega)
              have hnx : ys ++ [⟨x.s, newP (pairsB L 0 0) x.t⟩] = (rs.take (k + 1)).map (fun r => (⟨r.s, newP (pairsB L 0 0) r.t⟩ : Rv)) := by
                rw [take_snoc rs k hkl, List.map_append, ← hys.out, ← hx]; rfl
              have hyl : ys.length = k := by rw [hys.out, List.length_map, List.length_take]; omega
              obtain ⟨rs', rt⟩ := x
              simp only at hc2 hc3 hwf hnx
              have hlk := (map_below hmp (Gw.alloc wr (.cells #[.string rs', .int .i64 rt] 58))).look hwf
              obtain ⟨z, hz⟩ : ∃ z, z = (lookI (pairsB L 0 0) rt).getD 0 := ⟨_, rfl⟩
              rw [← hz] at hlk
              have HNx := Lib.hid (show ys ++ [⟨rs', z⟩] = (rs.take (k + 1)).map (fun r => (⟨r.s, newP (pairsB L 0 0) r.t⟩ : Rv)) ∧ ys.length = k from ⟨by rw [← hnx, hz]; rfl, hyl⟩)
              have p1 : (0 : Int) ≤ (k : Int) := by omega
              have p2 : (k : Int) < (M : Int) := by omega
              have e1 := hb1.two.2
              have e1f := hb1.free 1
              have HB3 := Lib.hid (And.intro hb1 (And.intro hro hK))
              have hcl := cell_lt hc2
              have hcl' : (ad.add (k * 2)).block < wr.heap.size := hcl
              clear hx hwf hmp hnx hyl hys hro hK hb1 hz hbw hkl hcl
              obtain ⟨i0, hi, hz0, hz1, hz2⟩ := info_parts infoR
              have HI := Lib.hid (And.intro hi (And.intro hz0 (And.intro hz1 hz2)))
              have b5 : Below wr.heap.size wr ((wr.alloc (.cells #[.string rs', .int .i64 z] 58)).alloc (.cells #[.string rs', .int .i64 z] 58)) := (Gw.alloc wr _).trans ((Gw.alloc _ _).mono (by simp))
              have n5 : Bk ((wr.alloc (.cells #[.string rs', .int .i64 z] 58)).alloc (.cells #[.string rs', .int .i64 z] 58)) (wr.heap.size + 1) 58 #[.string rs', .int .i64 z] := by
                have := Bk.new (wr.alloc (.cells #[.string rs', .int .i64 z] 58)) 58 #[.string rs', .int .i64 z]
                simpa using this
              have HB5 := Lib.hid b5
              have hrow := ownsRow_below HB3.out.2.1 b5
              rw [HNx.out.2] at hrow
              have hnew : ∀ (j : Nat) (u : Value), [Value.string rs', .int .i64 z][j]? = some u → ((wr.alloc (.cells #[.string rs', .int .i64 z] 58)).alloc (.cells #[.string rs', .int .i64 z] 58)).cell? ((⟨wr.heap.size + 1, 0, none⟩ : Addr).add j) = some u := fun j u hu => by
                have hj : j < 2 := by have := (List.getElem?_eq_some_iff.1 hu).1; simpa using this
                rw [addr_at, n5.cell]
                rcases (show j = 0 ∨ j = 1 by omega) with rfl | rfl
                · simpa using hu
                · simpa using hu
              have hone : ∀ u ∈ [Value.string rs', .int .i64 z], u.oneCell' = true := fun u hu => by
                simp only [List.mem_cons, List.not_mem_nil, or_false] at hu
                rcases hu with rfl | rfl <;> rfl
              have HRow := Lib.hid (And.intro hrow (And.intro hnew hone))
              have hwsz : W2.heap.size ≤ wr.heap.size := HB3.out.2.2.size
              have HWz := Lib.hid (show W2.heap.size ≤ ((wr.alloc (.cells #[.string rs', .int .i64 z] 58)).alloc (.cells #[.string rs', .int .i64 z] 58)).heap.size from Nat.le_trans hwsz b5.size)
              clear hi hz0 hz1 hz2 b5 n5 hrow hnew hone hwsz
              go_wp2_with (at_builtin; refine wp_appR 2 i0 Try.underlying23 HI.out.1 HI.out.2.1 HI.out.2.2.1 HI.out.2.2.2 (by rfl) (by decide) rfl (.tmp 88) (.tmp 90) rfl W2.heap.size _ k _ rfl HRow.out.1 ⟨wr.heap.size + 1, 0, none⟩ 1 1 [.string rs', .int .i64 z] rfl rfl HRow.out.2.1 HRow.out.2.2 (by unfold maxLen; omega) (by omega) HWz.out ?_; intro v5 w5 ho5 hb5 hg5 hv5; obtain ⟨A5, c5, rfl⟩ := own_form ho5; have hQ5 := (HB3.out.1.below HB5.out hobs).below hb5 HM9.out; have q50 := hQ5.two.2; have q5f := hQ5.free 1; have H5 := Lib.hid (And.intro ho5 (And.intro hb5 hQ5)); clear ho5 hb5 hg5 hv5 hQ5)
              have X : ∃ (k' : Nat) (RA' : Option Addr) (rc' : Nat) (ys' : List Rv), (Value.int .i64 ((k : Int) + 1)) = .int .i64 k' ∧ k' ≤ M ∧ Hid (ys' = (rs.take k').map (fun r => (⟨r.s, newP (pairsB L 0 0) r.t⟩ : Rv))) ∧ ROwn (w5.setCell ⟨ob, 1, none⟩ (.slice A5 (k + 1) c5)) W2.heap.size (.slice RA' k' rc') ys' ∧ Bk (w5.setCell ⟨ob, 1, none⟩ (.slice A5 (k + 1) c5)) ob 25 #[.slice VA m vc, .slice RA' k' rc'] ∧ Kept (fun b => b = ob) W2 (w5.setCell ⟨ob, 1, none⟩ (.slice A5 (k + 1) c5)) := by
                obtain ⟨h1, h2, h3⟩ := H5.out
                refine ⟨k + 1, A5, c5, ys ++ [⟨rs', z⟩], by go_num, by omega, Lib.hid HNx.out.1, ?_, h3.set 1 _, ((HB3.out.2.2.trans (Kept.of_below HB5.out _)).bel h2).trans (Kept.set w5 ob 1 _)⟩
                have h4 : ROwn w5 W2.heap.size (.slice A5 (k + 1) c5) (ys ++ [⟨rs', z⟩]) := by
                  unfold ROwn
                  rw [List.length_append, HNx.out.2, List.flatMap_append]
                  exact h1
                refine World.ownsRow.kept h4 (grown_set w5 ⟨ob, 1, none⟩ _) ?_
                cases e : (Value.slice A5 (k + 1) c5).ownBlock with
                | none => exact .inl rfl
                | some c => exact .inr (fun e2 => by injection e2 with e2; have e3 : c = ob := e2; have h5 := (World.ownsRow.lt h4 c e).1; have := HM9.out; omega)
              clear q50 q5f H5 HRow HB3
              go_roundw
              case rel => first | exact X | exact ⟨_, _, _, _, _, _, _, _, _, _, _, _, _, _, _, _, _, X, rfl⟩
              case measure => simp [Go.RowKit.intOf]; omega
            · have hkM : k = M := by omega
              have hyf : ys = rs.map (fun r => (⟨r.s, newP (pairsB L 0 0) r.t⟩ : Rv)) := by
                rw [hys.out, List.take_of_length_le (by rw [← HN.out.2]; omega)]
              have hyl : ys.length = k := by rw [hyf, List.length_map, ← HN.out.2, hkM]
              have hbw : Below w.heap.size w wr := HSr.out.bl.trans (hK.below HSr.out.bl.size (fun c e => by rw [e]; have h1 := HOb.out; have h2 := HS.out.bl.size; omega))
              have h1 := HOb.out
              have h2 := HS.out.bl.size
              have h3 := HS.out.rb.lt
              have hrb : Bk wr (w.heap.size + 1) 25 #[.slice none 0 0, .slice none 0 0] := hK.bk HSr.out.rb (fun e => by omega)
              have hto : Ow iV 3 wr (w.heap.size + 2) (.slice (some ⟨q, 0, none⟩) N N) (toB L 0) := hK.ow HSr.out.to (fun c e e2 => by injection e with e; have e3 : q = c := e; have h4 := HS.out.to.ge.2; omega)
              have hno : NOwn wr (ob + 1) (.slice VA m vc) xs := HNod.out.1.grown hK.gr (fun h => by have := blks_ge HNod.out.1 _ h; omega)
              have d0 := hrb.two.1
              have d1 := hrb.two.2
              have d2 := hrb.free 0
              have d3 := hrb.free 1
              have e0 := hb1.two.1
              have e1 := hb1.two.2
              have HF := Lib.hid (And.intro hno (And.intro hro (And.intro hto (And.intro hbw (And.intro hyf (And.intro hyl (And.intro h1 (And.intro h2 (And.intro h3 hrb)))))))))
              clear hno hro hto hbw hyf hyl h1 h2 h3 hrb hK hb1 hys hkM
              go_wp2_with fail
              obtain ⟨o1, o2, o3, o4, o5, o6, o7, o8, o9, o10⟩ := HF.out
              have hbz : Bk ((wr.setCell ⟨w.heap.size + 1, 0, none⟩ (.slice VA m vc)).setCell ⟨w.heap.size + 1, 1, none⟩ (.slice RA k rc)) (w.heap.size + 1) 25 #[.slice VA m vc, .slice RA k rc] := by
                have h := (o10.set 0 (.slice VA m vc)).set 1 (.slice RA k rc)
                simpa using h
              refine bodyPost_ret (v := .tuple #[.agg #[.slice VA m vc, .slice RA k rc], .slice (some ⟨q, 0, none⟩) N N]) (trim_res hbz rfl rfl) rfl ?_
              have hg0 : ∀ W : World, ∀ i u, W.grownBy (W.setCell ⟨w.heap.size + 1, i, none⟩ u) (some (w.heap.size + 1)) := fun W i u => grown_set W ⟨w.heap.size + 1, i, none⟩ u
              have hnin : w.heap.size + 1 ∉ (Value.slice VA m vc).ownBlock.toList ++ blksN xs := fun h => by
                have := blks_ge o1 _ h
                omega
              have r2 : (Value.slice RA k rc).ownBlock = none ∨ (Value.slice RA k rc).ownBlock ≠ some (w.heap.size + 1) := by
                cases e : (Value.slice RA k rc).ownBlock with
                | none => exact .inl rfl
                | some c => exact .inr (fun e2 => by injection e2 with e2; have h1 := (World.ownsRow.lt o2 c e).1; have h2 := HM9.out; omega)
              have r3 : (Value.slice (some ⟨q, 0, none⟩) N N).ownBlock = none ∨ (Value.slice (some ⟨q, 0, none⟩) N N).ownBlock ≠ some (w.heap.size + 1) := .inr (fun e => by injection e with e; have e3 : q = w.heap.size + 1 := e; have := HS.out.ord; omega)
              have h9 := HM9.out
              refine ⟨L, ⟨VA, vc, RA, rc, xs, ys⟩, q, ?_, ?_, ?_, ((o3.kept (hg0 _ _ _) r3).kept (hg0 _ _ _) r3).mono (by omega), HNod.out.2.1, o5, HL.out.1, HL.out.2, ?_⟩
              · show _ = Ending.returned (Value.tuple #[Value.agg #[.slice VA xs.length vc, .slice RA ys.length rc], _])
                rw [HNod.out.2.2.1, o6]
              · show NOwn _ _ (.slice VA xs.length vc) xs
                rw [HNod.out.2.2.1]
                exact ((o1.grown (hg0 _ _ _) hnin).grown (hg0 _ _ _) hnin).mono (by omega)
              · show ROwn _ _ (.slice RA ys.length rc) ys
                rw [o6]
                exact ROwn.mono (World.ownsRow.kept (World.ownsRow.kept o2 (hg0 _ _ _) r2) (hg0 _ _ _) r2) (by omega)
              · exact ((o4.setCell (p := ⟨w.heap.size + 1, 0, none⟩) (by show w.heap.size ≤ w.heap.size + 1; omega) _).setCell (p := ⟨w.heap.size + 1, 1, none⟩) (by show w.heap.size ≤ w.heap.size + 1; omega) _)
end Go.Proofs.Ytidaimcndbhefaa
/- The law's Of: the same graph in the other package's types. Conditions: lengths. -/
namespace Go.Proofs.Ytidaimcndbhefaa
set_option linter.unusedVariables false
set_option linter.unusedSimpArgs false
open Go.RowKit Go.Maps
theorem infoN7 : (Try.prog.info? 60).map (fun i => (i.zero, i.size, i.bytes)) = some (some (.agg #[.slice none 0 0, .slice none 0 0]), 2, 48) := by kernel_rfl
theorem infoR7 : (Try.prog.info? 61).map (fun i => (i.zero, i.size, i.bytes)) = some (some (.agg #[.string { data := #[] }, .int .i64 0]), 2, 24) := by kernel_rfl
theorem of_res {tmps : Array Value} {W : World} {g : Nat} {a b : Value} (hb : Bk W g 32 #[a, b]) (h2 : tmps.getD 2 undef = .pointer (some ⟨g, 0, none⟩)) :
    (results Try.f10 tmps).run Try.prog W = .ok (.agg #[a, b]) W := by
  have hl := run_loadVar_row (P := Try.prog) W g 32 32 #[a, b] (0, 0) _ hb Try.underlying32 rfl (by kernel_rfl)
  have h2' : tmps[2]?.getD undef = .pointer (some ⟨g, 0, none⟩) := by simpa using h2
  simp [results, Try.results10, h2', asAddr, hl]
theorem two_news {W : World} {q : Nat} {E : TypeId} {u0 u1 : Value} (h : Bk W q E #[u0, u1]) : ∀ (i : Nat) (u : Value), [u0, u1][i]? = some u → W.cell? ((⟨q, 0, none⟩ : Addr).add i) = some u := fun i u hu => by
  have hj : i < 2 := by have := (List.getElem?_eq_some_iff.1 hu).1; simpa using this
  rw [addr_at, h.cell]
  rcases (show i = 0 ∨ i = 1 by omega) with rfl | rfl
  · simpa using hu
  · simpa using hu
/-- What Of works on. -/
structure OfS (w W1 W : World) (q f k : Nat) (E : TypeId) (VA : Option Addr) (vc : Nat) (vals : List Value) (cs : Array Value) : Prop where
  row : W.ownsRow W1.heap.size E 2 (.slice VA k vc) k vals
  bk : Bk W q 32 cs
  kp : Kept (fun b => b = q) W1 W
  lt : q < W1.heap.size
theorem nrow_of {W : World} {base n c : Nat} {E : TypeId} {A : Option Addr} {xs : List Nv} (h : W.ownsRow base E 2 (.slice A n c) xs.length (xs.flatMap Nv.cs)) (hx : ∀ x ∈ xs, x.At W W.heap.size) : NRow W W.heap.size A xs := fun i hi => by
  obtain ⟨q, e, hb, hq, hc⟩ := own_cell2 (f := Nv.cs) (fun _ => rfl) h i hi
  have e0 := addr_at q (i * 2)
  refine ⟨_, e, hq, ?_, ?_, hx _ (List.getElem_mem _)⟩
  · rw [e0]; exact hc 0 (by decide)
  · rw [e0]; exact hc 1 (by decide)
theorem rrow_of {W : World} {base n c : Nat} {E : TypeId} {A : Option Addr} {xs : List Rv} (h : W.ownsRow base E 2 (.slice A n c) xs.length (xs.flatMap Rv.cs)) : RoRow W W.heap.size A xs := fun i hi => by
  obtain ⟨q, e, hb, hq, hc⟩ := own_cell2 (f := Rv.cs) (fun _ => rfl) h i hi
  have e0 := addr_at q (i * 2)
  refine ⟨_, e, hq, ?_, ?_⟩
  · rw [e0]; exact hc 0 (by decide)
  · rw [e0]; exact hc 1 (by decide)
theorem row_kept {a b : World} {base n c m : Nat} {E : TypeId} {A : Option Addr} {S : Nat → Prop} {cs : List Value} (hK : Kept S a b) (h : a.ownsRow base E 2 (.slice A n c) m cs) (hS : ∀ k, S k → k < base) : b.ownsRow base E 2 (.slice A n c) m cs := by
  obtain ⟨h1, h2⟩ := h
  refine ⟨h1, ?_⟩
  rcases h2 with h2 | ⟨g, cap, cur, e, hg, hh, r⟩
  · exact .inl h2
  · exact .inr ⟨g, cap, cur, e, hg, (hK.block g (Array.getElem?_eq_some_iff.1 hh).1 (fun hs => by have := hS g hs; omega)).trans hh, r⟩
set_option maxHeartbeats 4000000
set_option maxRecDepth 100000
theorem of_c (w : World) (g : Gv) (hg : g.At w w.heap.size) (hs : FewP g) : Calls Try.prog 10 #[g.v] w fun e w' => ∃ g' : Gv, e = .returned g'.v ∧ g'.At w' w'.heap.size ∧ g'.n = g.n ∧ g'.r = g.r ∧ Below w.heap.size w w' := by
  have HG := Lib.hid hg
  obtain ⟨A, ca, A2, ca2, ns, rs⟩ := g
  obtain ⟨N, hN⟩ : ∃ N, N = ns.length := ⟨_, rfl⟩
  obtain ⟨M, hM⟩ : ∃ M, M = rs.length := ⟨_, rfl⟩
  have HN := Lib.hid (And.intro hN hM)
  have q0 : (N : Int) ≤ 60 := by rw [hN]; exact Int.ofNat_le.2 hs.1
  have q1 : (M : Int) ≤ 80 := by rw [hM]; exact Int.ofNat_le.2 hs.2.1
  unfold Gv.v Gv.vn Gv.vr
  simp only
  rw [← hN, ← hM]
  clear hg hs hN hM
  go_enter Try.func10, Try.ntmps10
  go_wp2_with fail
  obtain ⟨q, hq⟩ : ∃ q, q = w.heap.size + 1 + 1 := ⟨_, rfl⟩
  obtain ⟨W1, hW1⟩ : ∃ W1, W1 = ((w.alloc (.cells #[.slice A N ca, .slice A2 M ca2] 25)).alloc (.cells #[.slice none 0 0, .slice none 0 0] 32)).alloc (.cells #[.slice none 0 0, .slice none 0 0] 32) := ⟨_, rfl⟩
  have HW1 := Lib.hid (show Bk W1 w.heap.size 25 #[.slice A N ca, .slice A2 M ca2] ∧ Bk W1 (w.heap.size + 1) 32 #[.slice none 0 0, .slice none 0 0] ∧ Below w.heap.size w W1 ∧ q = w.heap.size + 2 from by
    rw [hW1]
    have k1 := Bk.new (w.alloc (.cells #[.slice A N ca, .slice A2 M ca2] 25)) 32 #[.slice none 0 0, .slice none 0 0]
    simp only [World.size_alloc] at k1
    exact ⟨((Bk.new w _ _).alloc _).alloc _, k1.alloc _, (Gw.alloc w _).trans (((Gw.alloc _ _).trans ((Gw.alloc _ _).mono (by simp))).mono (by simp)), hq⟩)
  have HX1 := Lib.hid (show Bk W1 q 32 #[.slice none 0 0, .slice none 0 0] from by
    have k1 := Bk.new ((w.alloc (.cells #[.slice A N ca, .slice A2 M ca2] 25)).alloc (.cells #[.slice none 0 0, .slice none 0 0] 32)) 32 #[.slice none 0 0, .slice none 0 0]
    simp only [World.size_alloc] at k1
    rw [hW1, hq]; exact k1)
  rw [← hq, ← hW1]
  clear hq hW1
  go_loopw [4] (fun i W => ∃ (k : Nat) (VA : Option Addr) (vc : Nat), i = .int .i64 k ∧ k ≤ N ∧ OfS w W1 W q 0 k 60 VA vc ((ns.take k).flatMap Nv.cs) #[.slice VA k vc, .slice none 0 0]) (fun i _ => N - (Go.RowKit.intOf i).toNat)
  case atStart => exact ⟨0, none, 0, rfl, Nat.zero_le _, ⟨by simp, .inl ⟨rfl, rfl⟩⟩, HX1.out, Kept.refl _ _, HX1.out.lt⟩
  case round =>
    obtain ⟨k, VA, vc, rfl, hk, hS⟩ := hrel
    have HS := Lib.hid hS
    clear hS
    by_cases hlt : k < N
    · have hkl : k < ns.length := by rw [← HN.out.1]; exact hlt
      obtain ⟨x, hx⟩ : ∃ x, x = ns[k] := ⟨_, rfl⟩
      obtain ⟨ad, rfl, had, hc2, hc3⟩ : ∃ ad, A = some ad ∧ ad.block < w.heap.size ∧ w.cell? (ad.add (k * 2)) = some x.vp ∧ w.cell? ⟨(ad.add (k * 2)).block, (ad.add (k * 2)).off + 1, none⟩ = some x.vd := by
        obtain ⟨ad, e, e2, h1, h2, h3⟩ := HG.out.n k hkl
        exact ⟨ad, e, e2, by rw [hx]; exact h1, by rw [hx]; exact h2⟩
      have HT := Lib.hid (show (ns.take (k + 1)).flatMap Nv.cs = (ns.take k).flatMap Nv.cs ++ [x.vp, x.vd] from by rw [take_snoc ns k hkl, List.flatMap_append, ← hx]; simp [Nv.cs])
      obtain ⟨xA, xc, xD, xd, xps, xbs⟩ := x
      obtain ⟨xn, hxn⟩ : ∃ n, n = xps.length := ⟨_, rfl⟩
      obtain ⟨xm, hxm⟩ : ∃ n, n = xbs.length := ⟨_, rfl⟩
      unfold Nv.vp at hc2
      unfold Nv.vd at hc3
      unfold Nv.vp Nv.vd at HT
      simp only at hc2 hc3 HT
      rw [← hxn] at hc2 HT
      rw [← hxm] at hc3 HT
      clear hxn hxm hx hkl
      have HCK := Lib.hid (fun (W : World) (hK : Kept (fun b => b = q) W1 W) => show W.cell? ⟨w.heap.size, 0, none⟩ = some (.slice (some ad) N ca) ∧ W.cell? (ad.add (k * 2)) = some (.slice xA xn xc) ∧ W.cell? ⟨(ad.add (k * 2)).block, (ad.add (k * 2)).off + 1, none⟩ = some (.slice xD xm xd) from by
        have hb := hK.bk HW1.out.1 (show ¬ (w.heap.size = q) from by have := HW1.out.2.2.2; omega)
        have hw : Below w.heap.size w W := HW1.out.2.2.1.trans (hK.below HW1.out.2.2.1.size (fun c e => by rw [e]; have := HW1.out.2.2.2; omega))
        exact ⟨hb.cell 0, (hw.cell (cell_lt hc2)).trans hc2, (hw.cell (cell_lt hc3)).trans hc3⟩)
      have p1 : (0 : Int) ≤ (k : Int) := by omega
      have p2 : (k : Int) < (N : Int) := by omega
      have hw0 : wr.drew.cell? ⟨q, 0, none⟩ = some (.slice VA k vc) ∧ wr.drew.cell? ⟨w.heap.size, 0, none⟩ = some (.slice (some ad) N ca) ∧ wr.drew.cell? (ad.add (k * 2)) = some (.slice xA xn xc) ∧ wr.drew.cell? ⟨(ad.add (k * 2)).block, (ad.add (k * 2)).off + 1, none⟩ = some (.slice xD xm xd) := ⟨(HS.out.bk.below (Gw.drew wr) HS.out.bk.lt).cell 0, HCK.out _ (HS.out.kp.trans (Kept.of_below (Gw.drew wr) _))⟩
      have hg0 := (HCK.out _ HS.out.kp).1
      clear hc2 hc3 had
      go_wp2_with fail
      clear hg0
      refine region_by_spineU 18 [15, 16, 18] [(0, 14, .pointer (some ⟨q, 0, none⟩)), (1, 15, .slice VA k vc), (2, 16, .pointer (some ⟨w.heap.size, 0, none⟩)), (3, 17, .slice (some ad) N ca), (4, 18, .int .i64 k), (5, 19, .pointer (some (ad.add (k * 2)))), (6, 20, .pointer (some (ad.add (k * 2)))), (7, 21, .slice xA xn xc), (8, 22, .pointer (some ⟨w.heap.size, 0, none⟩)), (9, 23, .slice (some ad) N ca), (10, 24, .int .i64 k), (11, 25, .pointer (some (ad.add (k * 2)))), (12, 26, .pointer (some ⟨(ad.add (k * 2)).block, (ad.add (k * 2)).off + 1, none⟩)), (13, 27, .slice xD xm xd), (14, 28, .agg #[.slice xA xn xc, .slice xD xm xd]), (17, 31, .pointer (some ⟨q, 0, none⟩))]
        (fun W => W.cell? ⟨q, 0, none⟩ = some (.slice VA k vc) ∧ W.cell? ⟨w.heap.size, 0, none⟩ = some (.slice (some ad) N ca) ∧ W.cell? (ad.add (k * 2)) = some (.slice xA xn xc) ∧ W.cell? ⟨(ad.add (k * 2)).block, (ad.add (k * 2)).off + 1, none⟩ = some (.slice xD xm xd)) (by kernel_rfl) (by kernel_rfl) (by kernel_rfl) (by kernel_rfl) (by kernel_rfl) (by kernel_rfl) (by kernel_rfl) hw0 ?_ ?_
      · intro y hy V ρ hV hρ hcst
        obtain ⟨k1, k2, k3, k4⟩ := hV
        have e1 : ρ (.tmp 1) = .pointer (some ⟨w.heap.size, 0, none⟩) := (hρ 1).trans (by kernel_rfl)
        have e3 : ρ (.tmp 3) = .pointer (some ⟨q, 0, none⟩) := (hρ 3).trans (by kernel_rfl)
        have e4 : ρ (.tmp 4) = .int .i64 k := (hρ 4).trans (by kernel_rfl)
        have e14 : ρ (.tmp 14) = .pointer (some ⟨q, 0, none⟩) := (hρ 14).trans (by kernel_rfl)
        have e15 : ρ (.tmp 15) = .slice VA k vc := (hρ 15).trans (by kernel_rfl)
        have e16 : ρ (.tmp 16) = .pointer (some ⟨w.heap.size, 0, none⟩) := (hρ 16).trans (by kernel_rfl)
        have e17 : ρ (.tmp 17) = .slice (some ad) N ca := (hρ 17).trans (by kernel_rfl)
        have e18 : ρ (.tmp 18) = .int .i64 k := (hρ 18).trans (by kernel_rfl)
        have e19 : ρ (.tmp 19) = .pointer (some (ad.add (k * 2))) := (hρ 19).trans (by kernel_rfl)
        have e20 : ρ (.tmp 20) = .pointer (some (ad.add (k * 2))) := (hρ 20).trans (by kernel_rfl)
        have e21 : ρ (.tmp 21) = .slice xA xn xc := (hρ 21).trans (by kernel_rfl)
        have e22 : ρ (.tmp 22) = .pointer (some ⟨w.heap.size, 0, none⟩) := (hρ 22).trans (by kernel_rfl)
        have e23 : ρ (.tmp 23) = .slice (some ad) N ca := (hρ 23).trans (by kernel_rfl)
        have e24 : ρ (.tmp 24) = .int .i64 k := (hρ 24).trans (by kernel_rfl)
        have e25 : ρ (.tmp 25) = .pointer (some (ad.add (k * 2))) := (hρ 25).trans (by kernel_rfl)
        have e26 : ρ (.tmp 26) = .pointer (some ⟨(ad.add (k * 2)).block, (ad.add (k * 2)).off + 1, none⟩) := (hρ 26).trans (by kernel_rfl)
        have e27 : ρ (.tmp 27) = .slice xD xm xd := (hρ 27).trans (by kernel_rfl)
        clear hρ
        simp only [List.mem_cons, List.not_mem_nil, or_false] at hy
        rcases hy with rfl | rfl | rfl | rfl | rfl | rfl | rfl | rfl | rfl | rfl | rfl | rfl | rfl | rfl | rfl | rfl
        all_goals
          refine ⟨_, rfl, ?_⟩
          go_simp
          try rfl
      simp only [putA, putD, Act.put, List.setIfInBounds_toArray, List.set_cons_zero, List.set_cons_succ]
      refine spineU_list rfl rfl rfl ?_
      go_wp2_with fail
      have b3 : Below wr.heap.size wr (wr.drew.alloc (.cells #[.slice xA xn xc, .slice xD xm xd] 60)) := (Gw.drew wr).trans ((Gw.alloc wr.drew _).mono (Gw.drew wr).size)
      have E3 : Bk (wr.drew.alloc (.cells #[.slice xA xn xc, .slice xD xm xd] 60)) wr.heap.size 60 #[.slice xA xn xc, .slice xD xm xd] := Bk.new wr.drew 60 #[.slice xA xn xc, .slice xD xm xd]
      have q3 := HS.out.bk.below b3 HS.out.bk.lt
      have HW3 := Lib.hid (show (wr.drew.alloc (.cells #[.slice xA xn xc, .slice xD xm xd] 60)).cell? ⟨q, 0, none⟩ = some (.slice VA k vc) ∧ (wr.drew.alloc (.cells #[.slice xA xn xc, .slice xD xm xd] 60)).cell? ⟨w.heap.size, 0, none⟩ = some (.slice (some ad) N ca) ∧ (wr.drew.alloc (.cells #[.slice xA xn xc, .slice xD xm xd] 60)).cell? (ad.add (k * 2)) = some (.slice xA xn xc) ∧ (wr.drew.alloc (.cells #[.slice xA xn xc, .slice xD xm xd] 60)).cell? ⟨(ad.add (k * 2)).block, (ad.add (k * 2)).off + 1, none⟩ = some (.slice xD xm xd) from ⟨q3.cell 0, HCK.out _ (HS.out.kp.trans (Kept.of_below b3 _))⟩)
      refine ⟨rfl, (by first | exact HW3.out | exact fun _ => HW3.out), ?_⟩
      refine spineU_list rfl rfl rfl ?_
      obtain ⟨i0, hi, hz0, hz1, hz2⟩ := info_parts infoN7
      have ho3 := ownsRow_below HS.out.row b3
      refine wp_appR 2 i0 Try.underlying29 hi hz0 hz1 hz2 (by rfl) (by decide) rfl (.tmp 15) (.tmp 29) rfl W1.heap.size _ k _ rfl ho3 ⟨wr.heap.size, 0, none⟩ 1 1 [.slice xA xn xc, .slice xD xm xd] rfl rfl (two_news E3) (fun u hu => ?_) (by unfold maxLen; omega) (by omega) (Nat.le_trans HS.out.kp.size b3.size) ?_
      · simp only [List.mem_cons, List.not_mem_nil, or_false] at hu
        rcases hu with rfl | rfl <;> rfl
      intro v5 w5 ho5 hb5 hg5 hv5
      obtain ⟨A5, c5, rfl⟩ := own_form ho5
      have hkp : Kept (fun b => b = q) W1 w5 := (HS.out.kp.trans (Kept.of_below b3 _)).bel hb5
      have hq5 := q3.below hb5 HS.out.lt
      have HW5 := Lib.hid (show w5.cell? ⟨q, 0, none⟩ = some (.slice VA k vc) ∧ w5.cell? ⟨w.heap.size, 0, none⟩ = some (.slice (some ad) N ca) ∧ w5.cell? (ad.add (k * 2)) = some (.slice xA xn xc) ∧ w5.cell? ⟨(ad.add (k * 2)).block, (ad.add (k * 2)).off + 1, none⟩ = some (.slice xD xm xd) from ⟨hq5.cell 0, HCK.out _ hkp⟩)
      have F5 := hq5.free 0
      have C5 := hq5.cell 0
      have H5 := Lib.hid (And.intro ho5 (And.intro hkp hq5))
      clear ho3 ho5 hb5 hg5 hv5 hi hz0 hz1 hz2 b3 E3 q3 hkp hq5 hw0
      refine ⟨rfl, (by first | exact HW5.out | exact fun _ => HW5.out), ?_⟩
      refine spineU_list rfl rfl rfl ?_
      go_wp2_with fail
      refine ⟨rfl, trivial, ?_⟩
      unfold SpineU
      have X : ∃ (k' : Nat) (VA' : Option Addr) (vc' : Nat), (Value.int .i64 ((k : Int) + 1)) = .int .i64 k' ∧ k' ≤ N ∧ OfS w W1 (w5.setCell ⟨q, 0, none⟩ (.slice A5 (k + 1) c5)) q 0 k' 60 VA' vc' ((ns.take k').flatMap Nv.cs) #[.slice VA' k' vc', .slice none 0 0] := by
        obtain ⟨h1, h2, h3⟩ := H5.out
        refine ⟨k + 1, A5, c5, by go_num, by omega, ?_, h3.set 0 _, h2.trans (Kept.set w5 q 0 _), HS.out.lt⟩
        rw [HT.out]
        refine World.ownsRow.kept h1 (grown_set w5 ⟨q, 0, none⟩ _) ?_
        cases e : (Value.slice A5 (k + 1) c5).ownBlock with
        | none => exact .inl rfl
        | some c => exact .inr (fun e2 => by injection e2 with e2; have e3 : c = q := e2; have h5 := (World.ownsRow.lt h1 c e).1; have := HS.out.lt; omega)
      clear F5 C5 H5 HS
      go_wp2_with fail
      go_roundw
      case rel => first | exact X | exact ⟨_, _, _, _, _, _, _, _, _, _, _, _, _, _, _, _, _, _, X, rfl⟩
      case measure => simp [Go.RowKit.intOf]; omega
    · have hkN : k = N := by omega
      subst hkN
      have HR := Lib.hid (show wr.ownsRow W1.heap.size 60 2 (.slice VA k vc) ns.length (ns.flatMap Nv.cs) ∧ q < W1.heap.size from by
        have h := HS.out.row
        rw [List.take_of_length_le (by rw [← HN.out.1]; exact Nat.le_refl _)] at h
        rw [← HN.out.1]
        exact ⟨h, HS.out.lt⟩)
      have HW2 := Lib.hid (show Bk wr w.heap.size 25 #[.slice A k ca, .slice A2 M ca2] ∧ Bk wr (w.heap.size + 1) 32 #[.slice none 0 0, .slice none 0 0] ∧ Below w.heap.size w wr ∧ q = w.heap.size + 2 from by
        obtain ⟨h1, h2, h3, h4⟩ := HW1.out
        have hK := HS.out.kp
        exact ⟨hK.bk h1 (by omega), hK.bk h2 (by omega), h3.trans (hK.below h3.size (fun c e => by rw [e]; omega)), h4⟩)
      have HX2 := Lib.hid HS.out.bk
      have e0 := HW2.out.1.two.1
      obtain ⟨B0, hB0⟩ : ∃ B0, B0 = W1.heap.size := ⟨_, rfl⟩
      rw [← hB0] at HR
      clear HS HW1 HX1 hB0
      go_wp2_with fail
      clear e0
      obtain ⟨W1, hW1⟩ : ∃ W1, W1 = wr := ⟨_, rfl⟩
      rw [← hW1] at HR HW2 HX2 ⊢
      have HW1 := Lib.hid HW2.out
      clear HW2 hW1 hlt hk
      obtain ⟨NA, hNA⟩ : ∃ NA, NA = VA := ⟨_, rfl⟩
      obtain ⟨nc, hnc⟩ : ∃ nc, nc = vc := ⟨_, rfl⟩
      rw [← hNA, ← hnc] at HR HX2
      clear hNA hnc
      obtain ⟨N, hNk⟩ : ∃ N, N = k := ⟨_, rfl⟩
      rw [← hNk] at HR HX2 HW1 HN q0 ⊢
      clear hNk
      go_loopw [5] (fun i W => ∃ (k : Nat) (VA : Option Addr) (vc : Nat), i = .int .i64 k ∧ k ≤ M ∧ OfS w W1 W q 1 k 61 VA vc ((rs.take k).flatMap Rv.cs) #[.slice NA N nc, .slice VA k vc]) (fun i _ => M - (Go.RowKit.intOf i).toNat)
      case atStart => exact ⟨0, none, 0, rfl, Nat.zero_le _, ⟨by simp, .inl ⟨rfl, rfl⟩⟩, HX2.out, Kept.refl _ _, HX2.out.lt⟩
      case round =>
        obtain ⟨k, VA, vc, rfl, hk, hS⟩ := hrel
        have HS := Lib.hid hS
        clear hS
        by_cases hlt : k < M
        · have hkl : k < rs.length := by rw [← HN.out.2]; exact hlt
          obtain ⟨x, hx⟩ : ∃ x, x = rs[k] := ⟨_, rfl⟩
          obtain ⟨ad, rfl, had, hc2, hc3⟩ : ∃ ad, A2 = some ad ∧ ad.block < w.heap.size ∧ w.cell? (ad.add (k * 2)) = some (.string x.s) ∧ w.cell? ⟨(ad.add (k * 2)).block, (ad.add (k * 2)).off + 1, none⟩ = some (.int .i64 x.t) := by
            obtain ⟨ad, e, e2, h1, h2⟩ := HG.out.r k hkl
            exact ⟨ad, e, e2, by rw [hx]; exact h1, by rw [hx]; exact h2⟩
          have HT := Lib.hid (show (rs.take (k + 1)).flatMap Rv.cs = (rs.take k).flatMap Rv.cs ++ [.string x.s, .int .i64 x.t] from by rw [take_snoc rs k hkl, List.flatMap_append, ← hx]; simp [Rv.cs])
          obtain ⟨rs2, rt⟩ := x
          simp only at hc2 hc3 HT
          clear hx hkl
          have HCK := Lib.hid (fun (W : World) (hK : Kept (fun b => b = q) W1 W) => show W.cell? ⟨w.heap.size, 1, none⟩ = some (.slice (some ad) M ca2) ∧ W.cell? (ad.add (k * 2)) = some (.string rs2) ∧ W.cell? ⟨(ad.add (k * 2)).block, (ad.add (k * 2)).off + 1, none⟩ = some (.int .i64 rt) from by
            have hb := hK.bk HW1.out.1 (show ¬ (w.heap.size = q) from by have := HW1.out.2.2.2; omega)
            have hw : Below w.heap.size w W := HW1.out.2.2.1.trans (hK.below HW1.out.2.2.1.size (fun c e => by rw [e]; have := HW1.out.2.2.2; omega))
            exact ⟨hb.cell 1, (hw.cell (cell_lt hc2)).trans hc2, (hw.cell (cell_lt hc3)).trans hc3⟩)
          have p1 : (0 : Int) ≤ (k : Int) := by omega
          have p2 : (k : Int) < (M : Int) := by omega
          have hw0 : wr.drew.cell? ⟨q, 1, none⟩ = some (.slice VA k vc) ∧ wr.drew.cell? ⟨w.heap.size, 1, none⟩ = some (.slice (some ad) M ca2) ∧ wr.drew.cell? (ad.add (k * 2)) = some (.string rs2) ∧ wr.drew.cell? ⟨(ad.add (k * 2)).block, (ad.add (k * 2)).off + 1, none⟩ = some (.int .i64 rt) := ⟨(HS.out.bk.below (Gw.drew wr) HS.out.bk.lt).cell 1, HCK.out _ (HS.out.kp.trans (Kept.of_below (Gw.drew wr) _))⟩
          have hg0 := (HCK.out _ HS.out.kp).1
          clear hc2 hc3 had
          go_wp2_with fail
          clear hg0
          refine region_by_spineU 18 [15, 16, 18] [(0, 39, .pointer (some ⟨q, 1, none⟩)), (1, 40, .slice VA k vc), (2, 41, .pointer (some ⟨w.heap.size, 1, none⟩)), (3, 42, .slice (some ad) M ca2), (4, 43, .int .i64 k), (5, 44, .pointer (some (ad.add (k * 2)))), (6, 45, .pointer (some (ad.add (k * 2)))), (7, 46, .string rs2), (8, 47, .pointer (some ⟨w.heap.size, 1, none⟩)), (9, 48, .slice (some ad) M ca2), (10, 49, .int .i64 k), (11, 50, .pointer (some (ad.add (k * 2)))), (12, 51, .pointer (some ⟨(ad.add (k * 2)).block, (ad.add (k * 2)).off + 1, none⟩)), (13, 52, .int .i64 rt), (14, 53, .agg #[.string rs2, .int .i64 rt]), (17, 56, .pointer (some ⟨q, 1, none⟩))]
            (fun W => W.cell? ⟨q, 1, none⟩ = some (.slice VA k vc) ∧ W.cell? ⟨w.heap.size, 1, none⟩ = some (.slice (some ad) M ca2) ∧ W.cell? (ad.add (k * 2)) = some (.string rs2) ∧ W.cell? ⟨(ad.add (k * 2)).block, (ad.add (k * 2)).off + 1, none⟩ = some (.int .i64 rt)) (by kernel_rfl) (by kernel_rfl) (by kernel_rfl) (by kernel_rfl) (by kernel_rfl) (by kernel_rfl) (by kernel_rfl) hw0 ?_ ?_
          · intro y hy V ρ hV hρ hcst
            obtain ⟨k1, k2, k3, k4⟩ := hV
            have e1 : ρ (.tmp 1) = .pointer (some ⟨w.heap.size, 0, none⟩) := (hρ 1).trans (by kernel_rfl)
            have e3 : ρ (.tmp 3) = .pointer (some ⟨q, 0, none⟩) := (hρ 3).trans (by kernel_rfl)
            have e5 : ρ (.tmp 5) = .int .i64 k := (hρ 5).trans (by kernel_rfl)
            have e39 : ρ (.tmp 39) = .pointer (some ⟨q, 1, none⟩) := (hρ 39).trans (by kernel_rfl)
            have e40 : ρ (.tmp 40) = .slice VA k vc := (hρ 40).trans (by kernel_rfl)
            have e41 : ρ (.tmp 41) = .pointer (some ⟨w.heap.size, 1, none⟩) := (hρ 41).trans (by kernel_rfl)
            have e42 : ρ (.tmp 42) = .slice (some ad) M ca2 := (hρ 42).trans (by kernel_rfl)
            have e43 : ρ (.tmp 43) = .int .i64 k := (hρ 43).trans (by kernel_rfl)
            have e44 : ρ (.tmp 44) = .pointer (some (ad.add (k * 2))) := (hρ 44).trans (by kernel_rfl)
            have e45 : ρ (.tmp 45) = .pointer (some (ad.add (k * 2))) := (hρ 45).trans (by kernel_rfl)
            have e46 : ρ (.tmp 46) = .string rs2 := (hρ 46).trans (by kernel_rfl)
            have e47 : ρ (.tmp 47) = .pointer (some ⟨w.heap.size, 1, none⟩) := (hρ 47).trans (by kernel_rfl)
            have e48 : ρ (.tmp 48) = .slice (some ad) M ca2 := (hρ 48).trans (by kernel_rfl)
            have e49 : ρ (.tmp 49) = .int .i64 k := (hρ 49).trans (by kernel_rfl)
            have e50 : ρ (.tmp 50) = .pointer (some (ad.add (k * 2))) := (hρ 50).trans (by kernel_rfl)
            have e51 : ρ (.tmp 51) = .pointer (some ⟨(ad.add (k * 2)).block, (ad.add (k * 2)).off + 1, none⟩) := (hρ 51).trans (by kernel_rfl)
            have e52 : ρ (.tmp 52) = .int .i64 rt := (hρ 52).trans (by kernel_rfl)
            clear hρ
            simp only [List.mem_cons, List.not_mem_nil, or_false] at hy
            rcases hy with rfl | rfl | rfl | rfl | rfl | rfl | rfl | rfl | rfl | rfl | rfl | rfl | rfl | rfl | rfl | rfl
            all_goals
              refine ⟨_, rfl, ?_⟩
              go_simp
              try rfl
          simp only [putA, putD, Act.put, List.setIfInBounds_toArray, List.set_cons_zero, List.set_cons_succ]
          refine spineU_list rfl rfl rfl ?_
          go_wp2_with fail
          have b3 : Below wr.heap.size wr (wr.drew.alloc (.cells #[.string rs2, .int .i64 rt] 61)) := (Gw.drew wr).trans ((Gw.alloc wr.drew _).mono (Gw.drew wr).size)
          have E3 : Bk (wr.drew.alloc (.cells #[.string rs2, .int .i64 rt] 61)) wr.heap.size 61 #[.string rs2, .int .i64 rt] := Bk.new wr.drew 61 #[.string rs2, .int .i64 rt]
          have q3 := HS.out.bk.below b3 HS.out.bk.lt
          have HW3 := Lib.hid (show (wr.drew.alloc (.cells #[.string rs2, .int .i64 rt] 61)).cell? ⟨q, 1, none⟩ = some (.slice VA k vc) ∧ (wr.drew.alloc (.cells #[.string rs2, .int .i64 rt] 61)).cell? ⟨w.heap.size, 1, none⟩ = some (.slice (some ad) M ca2) ∧ (wr.drew.alloc (.cells #[.string rs2, .int .i64 rt] 61)).cell? (ad.add (k * 2)) = some (.string rs2) ∧ (wr.drew.alloc (.cells #[.string rs2, .int .i64 rt] 61)).cell? ⟨(ad.add (k * 2)).block, (ad.add (k * 2)).off + 1, none⟩ = some (.int .i64 rt) from ⟨q3.cell 1, HCK.out _ (HS.out.kp.trans (Kept.of_below b3 _))⟩)
          refine ⟨rfl, (by first | exact HW3.out | exact fun _ => HW3.out), ?_⟩
          refine spineU_list rfl rfl rfl ?_
          obtain ⟨i0, hi, hz0, hz1, hz2⟩ := info_parts infoR7
          have ho3 := ownsRow_below HS.out.row b3
          refine wp_appR 2 i0 Try.underlying30 hi hz0 hz1 hz2 (by rfl) (by decide) rfl (.tmp 40) (.tmp 54) rfl W1.heap.size _ k _ rfl ho3 ⟨wr.heap.size, 0, none⟩ 1 1 [.string rs2, .int .i64 rt] rfl rfl (two_news E3) (fun u hu => ?_) (by unfold maxLen; omega) (by omega) (Nat.le_trans HS.out.kp.size b3.size) ?_
          · simp only [List.mem_cons, List.not_mem_nil, or_false] at hu
            rcases hu with rfl | rfl <;> rfl
          intro v5 w5 ho5 hb5 hg5 hv5
          obtain ⟨A5, c5, rfl⟩ := own_form ho5
          have hkp : Kept (fun b => b = q) W1 w5 := (HS.out.kp.trans (Kept.of_below b3 _)).bel hb5
          have hq5 := q3.below hb5 HS.out.lt
          have HW5 := Lib.hid (show w5.cell? ⟨q, 1, none⟩ = some (.slice VA k vc) ∧ w5.cell? ⟨w.heap.size, 1, none⟩ = some (.slice (some ad) M ca2) ∧ w5.cell? (ad.add (k * 2)) = some (.string rs2) ∧ w5.cell? ⟨(ad.add (k * 2)).block, (ad.add (k * 2)).off + 1, none⟩ = some (.int .i64 rt) from ⟨hq5.cell 1, HCK.out _ hkp⟩)
          have F5 := hq5.free 1
          have C5 := hq5.cell 1
          have H5 := Lib.hid (And.intro ho5 (And.intro hkp hq5))
          clear ho3 ho5 hb5 hg5 hv5 hi hz0 hz1 hz2 b3 E3 q3 hkp hq5 hw0
          refine ⟨rfl, (by first | exact HW5.out | exact fun _ => HW5.out), ?_⟩
          refine spineU_list rfl rfl rfl ?_
          go_wp2_with fail
          refine ⟨rfl, trivial, ?_⟩
          unfold SpineU
          have X : ∃ (k' : Nat) (VA' : Option Addr) (vc' : Nat), (Value.int .i64 ((k : Int) + 1)) = .int .i64 k' ∧ k' ≤ M ∧ OfS w W1 (w5.setCell ⟨q, 1, none⟩ (.slice A5 (k + 1) c5)) q 1 k' 61 VA' vc' ((rs.take k').flatMap Rv.cs) #[.slice NA N nc, .slice VA' k' vc'] := by
            obtain ⟨h1, h2, h3⟩ := H5.out
            refine ⟨k + 1, A5, c5, by go_num, by omega, ?_, h3.set 1 _, h2.trans (Kept.set w5 q 1 _), HS.out.lt⟩
            rw [HT.out]
            refine World.ownsRow.kept h1 (grown_set w5 ⟨q, 1, none⟩ _) ?_
            cases e : (Value.slice A5 (k + 1) c5).ownBlock with
            | none => exact .inl rfl
            | some c => exact .inr (fun e2 => by injection e2 with e2; have e3 : c = q := e2; have h5 := (World.ownsRow.lt h1 c e).1; have := HS.out.lt; omega)
          clear F5 C5 H5 HS
          go_wp2_with fail
          go_roundw
          case rel => first | exact X | exact ⟨_, _, _, _, _, _, _, _, _, _, _, _, _, _, _, _, _, _, X, rfl⟩
          case measure => simp [Go.RowKit.intOf]; omega
        · have hkM : k = M := by omega
          subst hkM
          have hK := HS.out.kp
          have HR2 := Lib.hid (show wr.ownsRow W1.heap.size 61 2 (.slice VA k vc) rs.length (rs.flatMap Rv.cs) from by
            have h := HS.out.row
            rw [List.take_of_length_le (by rw [← HN.out.2]; exact Nat.le_refl _)] at h
            rw [← HN.out.2]
            exact h)
          obtain ⟨h1, h2, h3, h4⟩ := HW1.out
          have hrb := hK.bk h2 (show ¬ (w.heap.size + 1 = q) from by omega)
          have hgb := hK.bk h1 (show ¬ (w.heap.size = q) from by omega)
          have hbw : Below w.heap.size w wr := h3.trans (hK.below h3.size (fun c e => by rw [e]; omega))
          have g0 := hgb.two.2
          have d0 := hrb.two.1
          have d1 := hrb.two.2
          have d2 := hrb.free 0
          have d3 := hrb.free 1
          have e0 := HS.out.bk.two.1
          have e1 := HS.out.bk.two.2
          have HF := Lib.hid (And.intro hrb (And.intro hbw (And.intro h4 (show W1.heap.size > w.heap.size + 1 from h2.lt))))
          clear h1 h2 h3 h4 hrb hgb hbw hK
          go_wp2_with fail
          obtain ⟨o1, o2, o3, o4⟩ := HF.out
          have hbz : Bk ((wr.setCell ⟨w.heap.size + 1, 0, none⟩ (.slice NA N nc)).setCell ⟨w.heap.size + 1, 1, none⟩ (.slice VA k vc)) (w.heap.size + 1) 32 #[.slice NA N nc, .slice VA k vc] := by
            have h := (o1.set 0 (.slice NA N nc)).set 1 (.slice VA k vc)
            simpa using h
          refine bodyPost_ret (v := .agg #[.slice NA N nc, .slice VA k vc]) (of_res hbz rfl) rfl ?_
          have hKf : Kept (fun b => b = w.heap.size + 1) wr ((wr.setCell ⟨w.heap.size + 1, 0, none⟩ (.slice NA N nc)).setCell ⟨w.heap.size + 1, 1, none⟩ (.slice VA k vc)) := (Kept.set wr _ 0 _).trans (Kept.set _ _ 1 _)
          have hbf : Below w.heap.size w ((wr.setCell ⟨w.heap.size + 1, 0, none⟩ (.slice NA N nc)).setCell ⟨w.heap.size + 1, 1, none⟩ (.slice VA k vc)) := o2.trans (hKf.below o2.size (fun c e => by rw [e]; omega))
          have r1 := row_kept hKf (row_kept HS.out.kp HR.out.1 (fun c e => by rw [e]; exact HR.out.2)) (fun c e => by rw [e]; have := HR.out.2; omega)
          have r2 := row_kept hKf HR2.out (fun c e => by rw [e]; exact o4)
          refine ⟨⟨NA, nc, VA, vc, ns, rs⟩, ?_, ⟨nrow_of r1 (fun x hx => ?_), rrow_of r2, (own_len r1).2, (own_len r2).2⟩, rfl, rfl, hbf⟩
          · show Ending.returned _ = Ending.returned (Value.agg #[.slice NA ns.length nc, .slice VA rs.length vc])
            rw [← HN.out.1, ← HN.out.2]
          · obtain ⟨i, hi, rfl⟩ := List.mem_iff_getElem.1 hx
            obtain ⟨_, _, _, _, _, h⟩ := HG.out.n i hi
            exact h.up hbf
end Go.Proofs.Ytidaimcndbhefaa
/- The reference's Good, Words, Named; Ints. Conditions: lengths. -/
namespace Go.Proofs.Ytidaimcndbhefaa
set_option linter.unusedVariables false
set_option linter.unusedSimpArgs false
open Go.RowKit
set_option maxHeartbeats 1000000
set_option maxRecDepth 100000
theorem rsz_c (w : World) (A D : Option Addr) (n c m d : Nat) : Calls Try.prog 37 #[.agg #[.slice A n c, .slice D m d]] w (RetP (.int .i64 (sizeH (n : Int) (m : Int) false 0)) w) := by
  have HS := Lib.hid (fun W => rsize_c (n : Int) (m : Int) false 0 W)
  obtain ⟨u, hu⟩ : ∃ u, u = sizeH (n : Int) (m : Int) false 0 := ⟨_, rfl⟩
  rw [← hu] at HS ⊢
  clear hu
  go_enter Try.func37, Try.ntmps37
  go_wp2_with fail
  refine Calls.mono (HS.out _) ?_
  rintro r w2 ⟨rfl, b5⟩
  have b6 : Below w.heap.size w w2 := (Gw.alloc w _).trans (b5.mono (by simp))
  have HB := Lib.hid b6
  clear b5 b6
  go_wp2_with fail
  go_ret
  exact ⟨rfl, HB.out⟩
theorem rwords_c (w : World) (g : Gv) (hg : g.At w w.heap.size) (hs : g.Small) : Calls Try.prog 20 #[g.v] w (RetP (.int .i64 (wordsL g.n)) w) := by
  obtain ⟨R, hR⟩ : ∃ R, R = wordsL g.n := ⟨_, rfl⟩
  rw [← hR]
  have HR := Lib.hid hR
  have HG := Lib.hid hg
  obtain ⟨A, ca, A2, ca2, ns, rs⟩ := g
  obtain ⟨N, hN⟩ : ∃ N, N = ns.length := ⟨_, rfl⟩
  obtain ⟨M, hM⟩ : ∃ M, M = rs.length := ⟨_, rfl⟩
  have HN := Lib.hid hN
  have q0 : (N : Int) ≤ 1000000 := by rw [hN]; exact Int.ofNat_le.2 hs.1
  unfold Gv.v Gv.vn Gv.vr
  simp only
  rw [← hN, ← hM]
  clear hR hg hs hN hM
  go_enter Try.func20, Try.ntmps20
  go_wp2_with fail
  go_loopw [3, 4] (fun t i W => ∃ (k : Nat) (z : Int), i = .int .i64 k ∧ t = .int .i64 z ∧ k ≤ N ∧ Hid (z = wordsL (ns.take k)) ∧ Bk W w.heap.size 32 #[.slice A N ca, .slice A2 M ca2] ∧ Below w.heap.size w W) (fun _ i _ => N - (Go.RowKit.intOf i).toNat)
  case atStart => exact ⟨0, 0, rfl, rfl, Nat.zero_le _, Lib.hid (by simp [wordsL]), Bk.new _ _ _, (by repeat (first | with_reducible assumption | with_reducible exact Below.refl _ _ | with_reducible apply bdN | with_reducible apply Below.drew | with_reducible refine Below.alloc ?_ (by simp) _ | with_reducible refine Below.setCell ?_ (by simp) _))⟩
  case round =>
    obtain ⟨k, z, rfl, rfl, hk, hz, hb1, hB⟩ := hrel
    have c0 := hb1.two.1
    have hsz := hb1.lt
    have HBB := Lib.hid (And.intro hb1 hB)
    by_cases hlt : k < N
    · have hkl : k < ns.length := by rw [← HN.out]; exact hlt
      obtain ⟨x, hx⟩ : ∃ x, x = ns[k] := ⟨_, rfl⟩
      obtain ⟨ad, rfl, hc2, hc3⟩ : ∃ ad, A = some ad ∧ wr.cell? (ad.add (k * 2)) = some x.vp ∧ wr.cell? ⟨(ad.add (k * 2)).block, (ad.add (k * 2)).off + 1, none⟩ = some x.vd := by
        obtain ⟨ad, e, _, h1, h2, h3⟩ := (HG.out.n.below hB) k hkl
        exact ⟨ad, e, by rw [hx]; exact h1, by rw [hx]; exact h2⟩
      have p1 : (0 : Int) ≤ (k : Int) := by omega
      have p2 : (k : Int) < (N : Int) := by omega
      have hz2 : z + szN x = wordsL (ns.take (k + 1)) := by
        rw [take_snoc ns k hkl, wordsL_app, hz.out, hx]
        show _ = _ + (szN _ + 0)
        omega
      have hz3 : 0 ≤ z ∧ z ≤ 300000000 := by
        have := wordsL_le (ns.take k)
        rw [← hz.out, List.length_take] at this
        omega
      have hs3 := szN_le x
      obtain ⟨xA, xc, xD, xd, xps, xbs⟩ := x
      unfold Nv.vp at hc2
      unfold Nv.vd at hc3
      have HSz := Lib.hid (fun W => rsz_c W xA xD xps.length xc xbs.length xd)
      unfold szN at hz2 hs3
      simp only at hc2 hc3 hz2 hs3
      obtain ⟨u, hu⟩ : ∃ u, u = sizeH (xps.length : Int) (xbs.length : Int) false 0 := ⟨_, rfl⟩
      rw [← hu] at HSz hz2 hs3
      obtain ⟨xn, hxn⟩ : ∃ n, n = xps.length := ⟨_, rfl⟩
      obtain ⟨xm, hxm⟩ : ∃ n, n = xbs.length := ⟨_, rfl⟩
      rw [← hxn, ← hxm] at HSz
      rw [← hxn] at hc2
      rw [← hxm] at hc3
      have HZ2 := Lib.hid hz2
      have b1 := hz3.1
      have b2 := hz3.2
      have b3 := hs3.1
      have b4 := hs3.2
      clear hx hb1 hB hkl hz hz2 hz3 hs3 hu hxn hxm
      go_wp2_with fail
      refine Calls.mono (HSz.out _) ?_
      rintro r w2 ⟨rfl, b5⟩
      have b6 : Below wr.heap.size wr w2 := b5
      have HB2 := Lib.hid (And.intro (HBB.out.1.below b6 hsz) (HBB.out.2.trans (b6.mono HBB.out.2.size)))
      clear b5 b6 HSz
      go_wp2_with fail
      go_roundw
      case rel => exact ⟨k + 1, z + u, by go_num, by go_num, by omega, HZ2, HB2.out⟩
      case measure => simp [Go.RowKit.intOf]; omega
    · have hkN : z = R := by rw [HR.out, hz.out, show k = ns.length by rw [← HN.out]; omega, List.take_length]
      have HK := Lib.hid hkN
      clear hkN hb1 hB
      go_wp2_with fail
      go_ret
      rw [HK.out]
      exact ⟨rfl, HBB.out.2⟩
theorem rnamed_c (w : World) (g : Gv) (hg : g.At w w.heap.size) (hs : g.Small) : Calls Try.prog 22 #[g.v] w fun e w' => ∃ v, e = .returned v ∧ Ow iV 3 w' (w.heap.size + 1) v (g.r.map (·.t)) ∧ Below w.heap.size w w' := by
  obtain ⟨R, hR⟩ : ∃ R, R = g.r.map (·.t) := ⟨_, rfl⟩
  rw [← hR]
  have HR := Lib.hid hR
  have HG := Lib.hid hg
  obtain ⟨A, ca, A2, ca2, ns, rs⟩ := g
  obtain ⟨N, hN⟩ : ∃ N, N = ns.length := ⟨_, rfl⟩
  obtain ⟨M, hM⟩ : ∃ M, M = rs.length := ⟨_, rfl⟩
  have HM := Lib.hid hM
  have q0 : (M : Int) ≤ 1000000 := by rw [hM]; exact Int.ofNat_le.2 hs.2.1
  unfold Gv.v Gv.vn Gv.vr
  simp only
  rw [← hN, ← hM]
  clear hR hg hs hN hM
  go_enter Try.func22, Try.ntmps22
  go_wp2_with fail
  go_loopw [3, 4] (fun o i W => ∃ (k : Nat), i = .int .i64 k ∧ k ≤ M ∧ Ow iV 3 W (w.heap.size + 1) o ((rs.take k).map (·.t)) ∧ Bk W w.heap.size 32 #[.slice A N ca, .slice A2 M ca2] ∧ Below w.heap.size w W) (fun _ i _ => M - (Go.RowKit.intOf i).toNat)
  case atStart => exact ⟨0, rfl, Nat.zero_le _, Ow.nil_ _ _ _ _, Bk.new _ _ _, (by repeat (first | with_reducible assumption | with_reducible exact Below.refl _ _ | with_reducible apply bdN | with_reducible apply Below.drew | with_reducible refine Below.alloc ?_ (by simp) _ | with_reducible refine Below.setCell ?_ (by simp) _))⟩
  case round =>
    obtain ⟨k, rfl, hk, ho, hb1, hB⟩ := hrel
    have c1 := hb1.two.2
    have hsz := hb1.lt
    have HBB := Lib.hid (And.intro hb1 hB)
    have HO := Lib.hid ho
    by_cases hlt : k < M
    · have hkl : k < rs.length := by rw [← HM.out]; exact hlt
      obtain ⟨x, hx⟩ : ∃ x, x = rs[k] := ⟨_, rfl⟩
      obtain ⟨ad, rfl, hc2, hc3⟩ : ∃ ad, A2 = some ad ∧ wr.cell? (ad.add (k * 2)) = some (.string x.s) ∧ wr.cell? ⟨(ad.add (k * 2)).block, (ad.add (k * 2)).off + 1, none⟩ = some (.int .i64 x.t) := by
        obtain ⟨ad, e, _, h1, h2⟩ := (HG.out.r.below hB) k hkl
        exact ⟨ad, e, by rw [hx]; exact h1, by rw [hx]; exact h2⟩
      have p1 : (0 : Int) ≤ (k : Int) := by omega
      have p2 : (k : Int) < (M : Int) := by omega
      have hnext : (rs.take k).map (·.t) ++ [x.t] = (rs.take (k + 1)).map (·.t) := by
        rw [take_snoc rs k hkl, List.map_append, hx]; rfl
      have hlen : ((rs.take k).map (·.t)).length + 1 ≤ 4294967296 := by rw [List.length_map, List.length_take]; omega
      obtain ⟨s, t⟩ := x
      simp only at hc2 hc3 hnext
      have HNx := Lib.hid hnext
      clear hx hb1 hB hkl ho hnext
      obtain ⟨A3, m3, n3, rfl⟩ : ∃ A m n, u3 = Value.slice A m n := by
        obtain ⟨A, c, e, _⟩ := HO.out.form
        exact ⟨A, _, c, e⟩
      have hA : ∀ k, (Value.slice A3 m3 n3).ownBlock = some k → k < wr.heap.size := fun k e => (HO.out.lt k e).2
      have HA := Lib.hid hA
      clear hA
      go_wp2_with (at_builtin; refine wp_app oneI iV_one rfl (.tmp 12) (.tmp 19) rfl (w.heap.size + 1) _ ((rs.take k).map (·.t)) rfl (HO.out.alloc _) (some ⟨wr.heap.size, 0, none⟩) 1 1 [t] rfl rfl (wr.heap.size + 1) (rd1_new (f := iV) rfl) hlen (by decide) (by simp; omega) ?_; intro v5 w5 ho5 hb5 hg5 _)
      have HK := Lib.hid (show Ow iV 3 w5 (w.heap.size + 1) v5 ((rs.take (k + 1)).map (·.t)) ∧ Bk w5 w.heap.size 32 #[.slice A N ca, .slice (some ad) M ca2] ∧ Below w.heap.size w w5 from by
        rw [← HNx.out]
        refine ⟨ho5, (HBB.out.1.alloc _).below hb5 (by omega), ?_⟩
        exact (HBB.out.2.alloc HBB.out.2.size _).trans (hb5.mono (by omega)))
      clear ho5 hb5 hg5
      go_roundw
      case rel => exact ⟨k + 1, by go_num, by omega, HK.out⟩
      case measure => simp [Go.RowKit.intOf]; omega
    · have hkN : (rs.take k).map (·.t) = R := by rw [HR.out, show k = rs.length by rw [← HM.out]; omega, List.take_length]
      have HK := Lib.hid hkN
      clear hkN hb1 hB ho
      go_wp2_with fail
      go_ret
      rw [← HK.out]
      exact ⟨_, rfl, HO.out, HBB.out.2⟩
end Go.Proofs.Ytidaimcndbhefaa
/- The reference's Good at any string; Ints at equal rows. No conditions but lengths. -/
namespace Go.Proofs.Ytidaimcndbhefaa
set_option linter.unusedVariables false
set_option linter.unusedSimpArgs false
open Go.RowKit
set_option maxHeartbeats 1000000
set_option maxRecDepth 100000
theorem goodS_no {s : ByteArray} {k : Nat} (h : k < s.size) (e : s[k] = 0) : goodS s = false := by
  unfold goodS
  have hk : s.data.toList[k]? = some 0 := by
    rw [List.getElem?_eq_getElem (by simpa using h)]
    congr 1
  have hn : ¬ Lib.indexByte s.data.toList 0 < 0 := fun hlt => by
    have hge := Lib.indexByte_ge s.data.toList 0
    have : Lib.indexByte s.data.toList 0 = -1 := by omega
    exact Lib.indexByte_none this k hk
  simp [hn]
theorem goodS_yes {s : ByteArray} (h1 : 1 ≤ s.size) (h2 : s.size ≤ 32) (h : ∀ k (hk : k < s.size), s[k] ≠ 0) : goodS s = true := by
  unfold goodS
  have hn : Lib.indexByte s.data.toList 0 < 0 := by
    by_cases hc : Lib.indexByte s.data.toList 0 < 0
    · exact hc
    · exfalso
      obtain ⟨o, ho⟩ : ∃ o : Nat, Lib.indexByte s.data.toList 0 = o := ⟨(Lib.indexByte s.data.toList 0).toNat, by omega⟩
      have := (Lib.indexByte_some ho).1
      obtain ⟨ho2, e⟩ := List.getElem?_eq_some_iff.1 this
      have e2 : s.data[o]'(by simpa using ho2) = 0 := by simpa using e
      exact h o (by simpa using ho2) e2
  simp [h1, h2, hn]
theorem rgood_s (s : ByteArray) (w : World) : Calls Try.prog 29 #[.string s] w fun e w' => e = .returned (.bool (goodS s)) ∧ w' = w := by
  obtain ⟨r, hr⟩ : ∃ r, r = goodS s := ⟨_, rfl⟩
  rw [← hr]
  by_cases h1 : s.size < 1
  · obtain rfl : r = false := by rw [hr]; unfold goodS; rw [decide_eq_false (by omega)]; rfl
    have q1 : s.size = 0 := by omega
    have q2 : decide ((s.size : Int) < 1) = true := by rw [q1]; rfl
    clear hr h1 q1
    go_enter Try.func29, Try.ntmps29
    go_wp2_with fail
    go_ret
    exact ⟨rfl, rfl⟩
  · have q1 : decide ((s.size : Int) < 1) = false := by simp; omega
    by_cases h2 : 32 < s.size
    · obtain rfl : r = false := by rw [hr]; unfold goodS; rw [decide_eq_false (p := s.size ≤ 32) (by omega)]; simp
      have q2 : decide ((32 : Int) < (s.size : Int)) = true := by simp; omega
      clear hr h1 h2
      go_enter Try.func29, Try.ntmps29
      go_wp2_with fail
      go_ret
      exact ⟨rfl, rfl⟩
    · have q2 : decide ((32 : Int) < (s.size : Int)) = false := by simp; omega
      have hb : s.size ≤ 32 := by omega
      have HR := Lib.hid hr
      have H12 := Lib.hid (And.intro h1 h2)
      clear hr h1 h2
      go_enter Try.func29, Try.ntmps29
      go_wp2_with fail
      go_loop [3] (fun i => ∃ k : Nat, k ≤ s.size ∧ i = .int .i64 k ∧ Hid (∀ j (hj : j < s.size), j < k → s[j] ≠ 0)) (fun i => s.size - (Go.RowKit.intOf i).toNat)
      case atStart => exact ⟨0, Nat.zero_le _, rfl, Lib.hid (fun j _ hj => absurd hj (by omega))⟩
      case round =>
        obtain ⟨k, hk, rfl, hall⟩ := hrel
        by_cases hlt : k < s.size
        · have p1 : (0 : Int) ≤ (k : Int) := by omega
          have p2 : (k : Int) < (s.size : Int) := by omega
          by_cases hz0 : s[k] = 0
          · have e0 : ((s[k].toNat : Int) == 0) = true := by rw [hz0]; decide +kernel
            obtain rfl : r = false := by rw [HR.out]; exact goodS_no hlt hz0
            clear hz0
            go_wp2_with fail
            go_ret
            exact ⟨rfl, rfl⟩
          · have e0 : ((s[k].toNat : Int) == 0) = false := by
              have : ¬ s[k].toNat = 0 := fun e => hz0 (UInt8.toNat_inj.1 e)
              simp; omega
            have HZ0 := Lib.hid hz0
            clear hz0
            go_wp2_with fail
            go_round
            case rel => exact ⟨k + 1, by omega, by go_num, Lib.hid (fun j hjs hj => by
              rcases Nat.lt_or_ge j k with h | h
              · exact hall.out j hjs h
              · obtain rfl : j = k := by omega
                exact HZ0.out)⟩
            case measure => simp [Go.RowKit.intOf]; omega
        · obtain rfl : k = s.size := by omega
          obtain rfl : r = true := by
            rw [HR.out]
            have := H12.out
            exact goodS_yes (by omega) hb (fun j hj => hall.out j hj hj)
          go_wp2_with fail
          go_ret
          exact ⟨rfl, rfl⟩
theorem inr_r (Q : Exit → Act → World → Prop) (a0 : Act) (w : World) (a b : Addr) (N j c1 c2 : Nat) (z : Int) (h1 : a.block < w.heap.size) (h2 : b.block < w.heap.size) (k1 : w.cell? (a.add j) = some (.int .i64 z)) (k2 : w.cell? (b.add j) = some (.int .i64 z)) (p1 : (0 : Int) ≤ (j : Int)) (p2 : (j : Int) < (N : Int)) (hsz : a0.tmps.size = 26) (sl0 : a0.tmps.getD 0 undef = .slice (some a) N c1) (sl1 : a0.tmps.getD 1 undef = .slice (some b) N c2) (sl5 : a0.tmps.getD 5 undef = .int .i64 j)
    (fin : ∀ (vals : Nat → Value) (w1 : World), Below w.heap.size w w1 → (IsV (.bool false)) (vals 8) w1 → Q .normal (putD vals [17, 18, 19, 20, 21, 22, 23, 24, 25] 0 a0) w1) :
    (Code.region 6 (regIn Try.f35 6) true).wp Try.prog Q a0 w := by
  refine region_by (G := fun w w1 => Below w.heap.size w w1) [IsV (.slice (some a) N c1),
    IsV (.int .i64 j),
    IsV (.pointer (some (a.add j))),
    IsV (.int .i64 z),
    IsV (.slice (some b) N c2),
    IsV (.int .i64 j),
    IsV (.pointer (some (b.add j))),
    IsV (.int .i64 z),
    IsV (.bool false)]
    [17, 18, 19, 20, 21, 22, 23, 24, 25] (by kernel_rfl) (Gw.drew _) Gw.trans (by rw [hsz]; kernel_rfl) (by kernel_rfl) ?_ ?_ ?_
  · intro f hf
    simp only [List.mem_cons, List.not_mem_nil, or_false] at hf
    rcases hf with rfl | rfl | rfl | rfl | rfl | rfl | rfl | rfl | rfl <;> intro v a b h g <;> first | exact IsV.mono h
  · refine ⟨?_, ?_, ?_, ?_, ?_, ?_, ?_, ?_, ?_, trivial⟩
    · exact owes_mv 0 (by kernel_rfl) (by kernel_rfl) (by kernel_rfl) sl0 (fun _ => rfl)
    · exact owes_mv 5 (by kernel_rfl) (by kernel_rfl) (by kernel_rfl) sl5 (fun _ => rfl)
    · refine owes_v (Go.Op.indexAddr 26 (Go.Operand.tmp 17) (Go.Operand.tmp 18)) 0 [0, 1] (by kernel_rfl) (by kernel_rfl) (by kernel_rfl) rfl fun vals w1 ρ hG hF hρ hcst hfun => ?_
      have e17 : ρ (.tmp 17) = .slice (some a) N c1 := ((hρ 17).trans (slotJ [0, 1] (by rw [hsz]; decide) (by kernel_rfl))).trans (hF 0 (by decide))
      have e18 : ρ (.tmp 18) = .int .i64 j := ((hρ 18).trans (slotJ [0, 1] (by rw [hsz]; decide) (by kernel_rfl))).trans (hF 1 (by decide))
      clear hρ hF hcst hfun sl0 sl1 sl5 fin
      exact opv_val (by go_simp <;> rfl) ⟨gw_self _, rfl⟩
    · refine owes_v (Go.Op.load 3 (Go.Operand.tmp 19)) 3 [2] (by kernel_rfl) (by kernel_rfl) (by kernel_rfl) rfl fun vals w1 ρ hG hF hρ hcst hfun => ?_
      have e19 : ρ (.tmp 19) = .pointer (some (a.add j)) := ((hρ 19).trans (slotJ [2] (by rw [hsz]; decide) (by kernel_rfl))).trans (hF 2 (by decide))
      have k := (hG.cell (p := a.add j) (by rw [add_block]; exact h1)).trans k1
      clear hρ hF hcst hfun sl0 sl1 sl5 fin
      exact opv_val (by go_simp <;> rfl) ⟨gw_self _, rfl⟩
    · exact owes_mv 1 (by kernel_rfl) (by kernel_rfl) (by kernel_rfl) sl1 (fun _ => rfl)
    · exact owes_mv 5 (by kernel_rfl) (by kernel_rfl) (by kernel_rfl) sl5 (fun _ => rfl)
    · refine owes_v (Go.Op.indexAddr 26 (Go.Operand.tmp 21) (Go.Operand.tmp 22)) 0 [4, 5] (by kernel_rfl) (by kernel_rfl) (by kernel_rfl) rfl fun vals w1 ρ hG hF hρ hcst hfun => ?_
      have e21 : ρ (.tmp 21) = .slice (some b) N c2 := ((hρ 21).trans (slotJ [4, 5] (by rw [hsz]; decide) (by kernel_rfl))).trans (hF 4 (by decide))
      have e22 : ρ (.tmp 22) = .int .i64 j := ((hρ 22).trans (slotJ [4, 5] (by rw [hsz]; decide) (by kernel_rfl))).trans (hF 5 (by decide))
      clear hρ hF hcst hfun sl0 sl1 sl5 fin
      exact opv_val (by go_simp <;> rfl) ⟨gw_self _, rfl⟩
    · refine owes_v (Go.Op.load 3 (Go.Operand.tmp 23)) 3 [6] (by kernel_rfl) (by kernel_rfl) (by kernel_rfl) rfl fun vals w1 ρ hG hF hρ hcst hfun => ?_
      have e23 : ρ (.tmp 23) = .pointer (some (b.add j)) := ((hρ 23).trans (slotJ [6] (by rw [hsz]; decide) (by kernel_rfl))).trans (hF 6 (by decide))
      have k := (hG.cell (p := b.add j) (by rw [add_block]; exact h2)).trans k2
      clear hρ hF hcst hfun sl0 sl1 sl5 fin
      exact opv_val (by go_simp <;> rfl) ⟨gw_self _, rfl⟩
    · refine owes_v (Go.Op.binOp Go.BinOp.neq 3 (Go.Operand.tmp 20) (Go.Operand.tmp 24) 3) 4 [3, 7] (by kernel_rfl) (by kernel_rfl) (by kernel_rfl) rfl fun vals w1 ρ hG hF hρ hcst hfun => ?_
      have e20 : ρ (.tmp 20) = .int .i64 z := ((hρ 20).trans (slotJ [3, 7] (by rw [hsz]; decide) (by kernel_rfl))).trans (hF 3 (by decide))
      have e24 : ρ (.tmp 24) = .int .i64 z := ((hρ 24).trans (slotJ [3, 7] (by rw [hsz]; decide) (by kernel_rfl))).trans (hF 7 (by decide))
      clear hρ hF hcst hfun sl0 sl1 sl5 fin
      exact opv_val (by go_simp <;> rfl) ⟨gw_self _, rfl⟩
  · intro vals w1 hG hF
    exact fin vals w1 hG (hF 8 (by decide +kernel))
theorem ints_same (w : World) (A1 A2 : Option Addr) (c1 c2 N : Nat) (xs : List Int) (hN : N = xs.length) (hl : N ≤ 1000) (h1 : Rd iV w w.heap.size A1 xs) (h2 : Rd iV w w.heap.size A2 xs) : Calls Try.prog 18 #[.slice A1 N c1, .slice A2 N c2] w (RetP (.bool true) w) := by
  have HI : Hid (Calls Try.prog 35 #[.slice A1 N c1, .slice A2 N c2] w (RetP (.bool true) w)) := Lib.hid (by
    have HN := Lib.hid hN
    have HR := Lib.hid (And.intro h1 h2)
    have hN2 : (N : Int) ≤ 1000 := by omega
    clear h1 h2 hl hN
    go_enter Try.func35, Try.ntmps35
    go_wp2_with fail
    go_loopw [5] (fun i wr => ∃ j : Nat, j ≤ N ∧ i = .int .i64 j ∧ Hid (Below w.heap.size w wr)) (fun i _ => N - (Go.RowKit.intOf i).toNat)
    case atStart => exact ⟨0, Nat.zero_le _, rfl, Lib.hid (Below.refl _ _)⟩
    case round =>
      obtain ⟨j, hj, rfl, hB⟩ := hrel
      by_cases hlt : j < N
      · have p1 : (0 : Int) ≤ (j : Int) := by omega
        have p2 : (j : Int) < (N : Int) := by omega
        have hjl : j < xs.length := by rw [← HN.out]; exact hlt
        obtain ⟨q1, rfl, hq1, k1⟩ := (HR.out.1.below hB.out) j hjl
        obtain ⟨q2, rfl, hq2, k2⟩ := (HR.out.2.below hB.out) j hjl
        obtain ⟨z, hz⟩ : ∃ z, z = xs[j] := ⟨_, rfl⟩
        rw [← hz] at k1 k2
        unfold iV at k1 k2
        have hsz := hB.out.size
        have HReg := Lib.hid (fun Q a0 => inr_r Q a0 wr q1 q2 N j c1 c2 z (Nat.lt_of_lt_of_le hq1 hsz) (Nat.lt_of_lt_of_le hq2 hsz) k1 k2 p1 p2)
        clear hz hjl k1 k2
        go_wp2_with fail
        refine HReg.out _ _ rfl rfl rfl rfl ?_
        intro vals w2 hG h25
        unfold IsV at h25
        simp only [putD, Act.put, List.setIfInBounds_toArray, List.set_cons_zero, List.set_cons_succ, h25]
        have HB2 := Lib.hid (hB.out.trans (hG.mono hB.out.size))
        clear h25 hG
        go_wp2_with fail
        go_roundw
        case rel => exact ⟨j + 1, by omega, by go_num, HB2⟩
        case measure => simp [Go.RowKit.intOf]; omega
      · obtain rfl : j = N := by omega
        go_wp2_with fail
        go_ret
        exact ⟨rfl, hB.out⟩)
  clear h1 h2 hN hl
  go_enter Try.func18, Try.ntmps18
  go_wp2_with fail
  refine Calls.mono HI.out ?_
  rintro r w1 ⟨rfl, b1⟩
  have HB := Lib.hid b1
  clear b1 HI
  go_wp2_with fail
  go_ret
  exact ⟨rfl, HB.out⟩
end Go.Proofs.Ytidaimcndbhefaa
/- A region that keeps its order, by a fact for each of its operations. No conditions. -/
namespace Go.Proofs.Ytidaimcndbhefaa
set_option linter.unusedVariables false
set_option linter.unusedSimpArgs false
open Go.RowKit
section
variable {P : Program} {ops : Array Oper} {Q : Exit → Act → World → Prop} {G : World → World → Prop} {F : Nat → Value → World → Prop} {a0 : Act} {w0 : World}
theorem list_facts0 (hrefl : G w0 w0) (htrans : ∀ a b c, G a b → G b c → G a c) (hmono : ∀ j, j < ops.size → ∀ v a b, F j v a → G a b → F j v b)
    (hreg : regB ops a0.tmps.size = true) (howes : ∀ i, i < ops.size → Owes P ops Q G F a0 w0 i)
    (fin : ∀ (vals : Nat → Value) (w : World), G w0 w → (∀ j, j < ops.size → F j (vals j) w) → Q .normal (putL ops vals (List.range ops.size) a0) w) :
    wpList P ops Q ops.toList a0 w0 := by
  have main : ∀ (n k : Nat) (a : Act) (w : World), k + n = ops.size → G w0 w → a.defers = a0.defers → a.tmps.size = a0.tmps.size →
      (∀ j, j < k → F j (valAt ops a j) w) → (∀ t, (∀ j, j < k → dstOf ops j ≠ some t) → a.tmps.getD t undef = a0.tmps.getD t undef) →
      wpOps P ops Q (List.range' k n) a w := by
    intro n
    induction n with
    | zero =>
      intro k a w hk hG hd hs hF hR
      obtain rfl : k = ops.size := by omega
      show Q .normal a w
      have := fin (valAt ops a) w hG hF
      rw [putL_whole a (List.range ops.size) a0 hs.symm hd.symm] at this
      · exact this
      · intro t
        by_cases e : ∃ j, j < ops.size ∧ dstOf ops j = some t
        · obtain ⟨j, hj, hjd⟩ := e
          exact .inr ⟨j, List.mem_range.2 hj, hjd⟩
        · left
          exact (hR t fun j hj he => e ⟨j, hj, he⟩).symm
    | succ n ih =>
      intro k a w hk hG hd hs hF hR
      have hlt : k < ops.size := by omega
      rw [List.range'_succ, wpOps_cons]
      have hw : ∀ i j, i < ops.size → waitsB ops i j = true → j < i := by
        intro i j hi hj
        obtain ⟨o', ho', e, he, hb, rfl⟩ := waits_some hj
        obtain ⟨o, d, ho, _, _, _, hh⟩ := regB_at hreg hi
        rw [ho] at ho'
        injection ho' with ho'
        subst ho'
        exact hh e he hb
      have hlt2 : ∀ j t, dstOf ops j = some t → j < ops.size := by
        intro j t h
        rcases Nat.lt_or_ge j ops.size with hl | hl
        · exact hl
        · unfold dstOf at h; rw [Array.getElem?_eq_none hl] at h; cases h
      have hstep := howes k hlt a w hG hd hs (fun j hj => hF j (hw k j hlt hj)) (fun t ht => hR t fun j hj he => by
        have h1 := ht j he
        have := hw j k (hlt2 j t he) h1
        omega)
      refine wpOp_mono ?_ hstep
      rintro a' w' ⟨v, rfl, hg, hf⟩
      obtain ⟨o2, d, ho2, hd2, hdl, hdd, _⟩ := regB_at hreg hlt
      have hdo : dstOf ops k = some d := by unfold dstOf; rw [ho2]; exact hd2
      rw [hdo]
      refine ih (k + 1) (a.put (some d) v) w' (by omega) (htrans _ _ _ hG hg) (by exact hd) (by rw [put_size, hs]) ?_ ?_
      · intro j hj
        by_cases e : j = k
        · subst e
          unfold valAt
          rw [hdo]
          simp only
          rw [put_same _ _ _ (by rw [hs]; exact hdl)]
          exact hf
        · have h1 := hmono j (by omega) _ _ _ (hF j (by omega)) hg
          have h2 : valAt ops (a.put (some d) v) j = valAt ops a j := by
            unfold valAt
            have hne := hdd j (by omega) e
            cases hjd : dstOf ops j with
            | none => rfl
            | some dj =>
              simp only
              exact put_other _ _ _ _ (fun h => hne (by rw [hjd]; exact h.symm))
          rw [h2]
          exact h1
      · intro t ht
        have h1 : some d ≠ some t := fun h => ht k (by omega) (by rw [hdo]; exact h)
        rw [put_other _ _ _ _ h1]
        exact hR t fun j hj => ht j (by omega)
  rw [← wpOps_eq_wpList ops.toList 0 (by simp), Array.length_toList]
  exact main ops.size 0 a0 w0 (by omega) hrefl rfl rfl (fun j hj => absurd hj (by omega)) (fun t _ => rfl)
end
section
variable {P : Program} {ops : Array Oper} {Q : Exit → Act → World → Prop} {F : Nat → Value → World → Prop} {a0 : Act} {w0 : World}
/-- An operation under a guard that itself was left out. -/
theorem owes_un {i : Nat} (k : Nat) (want : Bool) (hg : (ops[i]?).bind (·.guard) = some (k, want)) (hk : waitsB ops i k = true) (hc : ∀ v w, F k v w → v = undef)
    (hsz : ((dstOf ops k).map fun d => decide (d < a0.tmps.size)) = some true) (hF : ∀ w, F i undef w) : Owes P ops Q (fun w w' => Below w.heap.size w w') F a0 w0 i := by
  cases hi : ops[i]? with
  | none => rw [hi] at hg; cases hg
  | some o =>
    rw [hi] at hg
    intro a w hG hd hs hF' hR
    have hy : yielded ops a.tmps k = none := by
      have h1 := hc _ _ (hF' k hk)
      unfold valAt at h1
      unfold yielded
      cases hkd : dstOf ops k with
      | none => rw [hkd] at hsz; cases hsz
      | some d =>
        rw [hkd] at hsz h1
        have hl : d < a.tmps.size := by rw [hs]; simpa using hsz
        unfold dstOf at hkd
        rw [hkd]
        simp only [Option.bind_some] at h1 ⊢
        rw [Array.getD_eq_getD_getElem?, Array.getElem?_eq_getElem hl] at h1
        rw [Array.getElem?_eq_getElem hl]
        simp only [Option.getD_some] at h1
        rw [h1]
        rfl
    unfold wpOp
    rw [hi]
    have hw : Region.wanted o (yielded ops a.tmps) = false := by
      unfold Region.wanted
      rw [show o.guard = some (k, want) from hg]
      simp only [hy]
      cases want <;> rfl
    simp only [hw, Bool.false_eq_true, if_false]
    exact ⟨undef, by unfold dstOf; rw [hi]; rfl, Below.refl _ _, hF _⟩
end
/-- A region's operations from the k-th on, each of which waits for all that stand ahead of it. -/
def cutOps (k : Nat) (ops : Array Oper) : List Oper := ops.toList.drop k
def fullO (k : Nat) (p : Oper × Nat) : Oper := { p.1 with guard := p.1.guard.map fun g => (g.1 - k, g.2), after := ((List.range p.2).map fun j => ({ on := j, ground := .data } : Edge)).toArray }
def fullOps (k : Nat) (ops : Array Oper) : Array Oper := ((cutOps k ops).zipIdx.map (fullO k)).toArray
def cutB (k : Nat) (ops : Array Oper) : Bool := (cutOps k ops).all fun o => match o.guard with | none => true | some g => decide (k ≤ g.1)
theorem fullO_wp {P : Program} {k i : Nat} {o : Oper} {a : Act} {w : World} {K : Act → World → Prop} {Q : Exit → Act → World → Prop} (h : (fullO k (o, i)).wp P a w K Q) : o.wp P a w K Q := by
  cases o
  exact h
theorem fullO_asks {P : Program} {k i : Nat} {o : Oper} {a : Act} {w : World} (h : (fullO k (o, i)).asks P a w) : o.asks P a w := by
  cases o
  exact h
theorem fullO_dst (k i : Nat) (o : Oper) : (fullO k (o, i)).dst = o.dst := rfl
theorem full_get {ops : Array Oper} {k j : Nat} (h : k ≤ j) : ((fullOps k ops)[j - k]?).bind (·.dst) = (ops[j]?).bind (·.dst) := by
  unfold fullOps cutOps
  rw [List.getElem?_toArray, List.getElem?_map, List.getElem?_zipIdx, List.getElem?_drop]
  rw [show k + (j - k) = j by omega, Array.getElem?_toList]
  cases ops[j]? with
  | none => rfl
  | some o => rfl
theorem full_list {P : Program} {ops : Array Oper} {Q : Exit → Act → World → Prop} {k : Nat} : ∀ (l : List Oper) (i : Nat), (l.all fun o => match o.guard with | none => true | some g => decide (k ≤ g.1)) = true →
    ∀ a w, wpList P (fullOps k ops) Q ((l.zipIdx i).map (fullO k)) a w → wpList P ops Q l a w
  | [], _, _, _, _, h => h
  | o :: l, i, hg, a, w, h => by
    rw [List.all_cons, Bool.and_eq_true] at hg
    have hw : Region.wanted (fullO k (o, i)) (yielded (fullOps k ops) a.tmps) = Region.wanted o (yielded ops a.tmps) := by
      unfold Region.wanted fullO
      cases hgd : o.guard with
      | none => rfl
      | some g =>
        have hk : k ≤ g.1 := by have := hg.1; rw [hgd] at this; simpa using this
        have : yielded (fullOps k ops) a.tmps (g.1 - k) = yielded ops a.tmps g.1 := by unfold yielded; rw [full_get hk]
        obtain ⟨g1, g2⟩ := g
        simp only [Option.map_some] at this ⊢
        rw [this]
    rw [List.zipIdx_cons, List.map_cons] at h
    unfold wpList at h ⊢
    rw [hw] at h
    split
    · rename_i hy
      rw [if_pos hy] at h
      rcases h with h | h
      · exact .inl (Oper.wp_mono (fun a w h => full_list l (i + 1) hg.2 a w h) (fullO_wp h))
      · exact .inr ⟨fullO_asks h.1, h.2⟩
    · rename_i hy
      rw [if_neg hy] at h
      exact full_list l (i + 1) hg.2 _ _ h
/-- The rest of a region, from the k-th operation on, by a fact for each of its operations. -/
theorem list_by0 {P : Program} {ops0 ops : Array Oper} {Q : Exit → Act → World → Prop} {G : World → World → Prop} {a0 : Act} {w0 : World} {k : Nat} {rest : List Oper} (Fs : List (Value → World → Prop)) (ds : List Tmp)
    (ho : fullOps k ops0 = ops) (hr : rest = cutOps k ops0) (hc : cutB k ops0 = true)
    (hrefl : G w0 w0) (htrans : ∀ a b c, G a b → G b c → G a c)
    (hreg : regB ops a0.tmps.size = true) (hds : (List.range' 0 ops.size).map (dstOf ops) = ds.map some)
    (hmono : ∀ f ∈ Fs, ∀ v a b, f v a → G a b → f v b)
    (howes : AllN (Owes P ops Q G (fun j => Fs.getD j fun _ _ => True) a0 w0) ops.size 0)
    (fin : ∀ (vals : Nat → Value) (w : World), G w0 w → (∀ j, j < ops.size → (Fs.getD j fun _ _ => True) (vals j) w) → Q .normal (putD vals ds 0 a0) w) :
    wpList P ops0 Q rest a0 w0 := by
  subst hr
  have h : wpList P ops Q ops.toList a0 w0 := by
    refine list_facts0 hrefl htrans ?_ hreg (fun i hi => howes.at_ _ _ i (by omega) (by omega)) ?_
    · intro j _ v a b h g
      rw [List.getD_eq_getElem?_getD] at h ⊢
      cases hj : Fs[j]? with
      | none => rw [hj] at h; exact trivial
      | some f => rw [hj] at h; exact hmono f (List.mem_of_getElem? hj) v a b h g
    · intro vals w hG hF
      rw [List.range_eq_range', putD_eq vals ds ops.size 0 a0 hds]
      exact fin vals w hG hF
  subst ho
  exact full_list _ 0 hc a0 w0 h
end Go.Proofs.Ytidaimcndbhefaa
/- The reference's Check. Conditions: lengths. -/
namespace Go.Proofs.Ytidaimcndbhefaa
set_option linter.unusedVariables false
set_option linter.unusedSimpArgs false
open Go.RowKit
set_option maxHeartbeats 4000000
set_option maxRecDepth 100000
theorem okP_iff {N : Nat} {p : Int} : okP N p = true ↔ 0 ≤ p ∧ p ≤ (N : Int) := by
  unfold okP hasG
  simp
  omega
theorem leS_empty {s : ByteArray} (h : goodS s = true) : leS s emptyS = false := by
  have hs : 1 ≤ s.size := by
    unfold goodS at h
    simp only [Bool.and_eq_true, decide_eq_true_eq] at h
    exact h.1
  have hl : s.toList.length = s.size := by rw [ByteArray.toList_eq]; simp
  have e0 : emptyS.toList = [] := by rw [ByteArray.toList_eq]; rfl
  unfold leS
  rw [e0]
  cases hc : s.toList with
  | nil => rw [hc] at hl; simp at hl; omega
  | cons a l => rfl
theorem less_tri : ∀ x y : List UInt8, Op.bytesLess y x = !(Op.bytesLess x y || x == y)
  | [], [] => rfl
  | [], b :: y => by simp [Op.bytesLess]
  | a :: x, [] => by simp [Op.bytesLess]
  | a :: x, b :: y => by
    have ih := less_tri x y
    simp only [Op.bytesLess]
    rw [ih]
    rcases Nat.lt_trichotomy a.toNat b.toNat with h | h | h
    · have h1 : a < b := UInt8.lt_iff_toNat_lt.2 h
      have h2 : ¬ b < a := fun e => by have := UInt8.lt_iff_toNat_lt.1 e; omega
      have h3 : ¬ b = a := fun e => by subst e; omega
      have h4 : (b == a) = false := by simpa using h3
      simp [h1, h2, h4]
    · have h1 : a = b := UInt8.toNat_inj.1 h
      subst h1
      have h2 : ¬ a < a := fun e => by have := UInt8.lt_iff_toNat_lt.1 e; omega
      simp [h2]
    · have h1 : b < a := UInt8.lt_iff_toNat_lt.2 h
      have h2 : ¬ a < b := fun e => by have := UInt8.lt_iff_toNat_lt.1 e; omega
      have h3 : ¬ a = b := fun e => by subst e; omega
      have h4 : (a == b) = false := by simpa using h3
      simp [h1, h2, h4, h3]
theorem of_ret17 {P : Program} {f : FuncId} {args : Array Value} {v : Value} {w : World} (h : Calls P f args w fun e w' => e = .returned v ∧ w' = w) : Calls P f args w fun e w2 => ∃ u, e = .returned u ∧ Below w.heap.size w w2 ∧ IsV v u w2 :=
  h.mono fun _ _ h => ⟨_, h.1, by rw [h.2]; exact Below.refl _ _, rfl⟩
def prevS (rs : List Rv) : Nat → ByteArray
  | 0 => emptyS
  | k + 1 => ((rs[k]?).map (·.s)).getD emptyS
theorem rcka_r (Q : Exit → Act → World → Prop) (a0 : Act) (w : World) (bx : Nat) (s : ByteArray) (i : Int) (hs : Hid (∀ W, Below w.heap.size w W → W.cell? ⟨bx, 0, none⟩ = some (.string s))) (hg : goodS s = false) (hsz : a0.tmps.size = 99) (sl8 : a0.tmps.getD 8 undef = .pointer (some ⟨bx, 0, none⟩))
    (fin : ∀ (vals : Nat → Value) (w1 : World), Below w.heap.size w w1 → (IsV (.bool true)) (vals 19) w1 → Q .normal (putD vals [70, 71, 72, 73, 74, 75, 76, 77, 78, 79, 80, 81, 82, 83, 84, 85, 86, 87, 88, 89] 0 a0) w1) :
    (Code.region 19 (regIn Try.f12 19) true).wp Try.prog Q a0 w := by
  refine region_by (G := fun w w1 => Below w.heap.size w w1) [IsV (.pointer (some ⟨bx, 0, none⟩)),
    IsV (.string s),
    IsV (.bool false),
    IsV (.bool true),
    IsV (.bool true),
    IsV undef,
    IsV undef,
    IsV undef,
    IsV undef,
    IsV undef,
    IsV undef,
    IsV undef,
    IsV undef,
    IsV undef,
    IsV undef,
    IsV undef,
    IsV undef,
    IsV undef,
    IsV undef,
    IsV (.bool true)]
    [70, 71, 72, 73, 74, 75, 76, 77, 78, 79, 80, 81, 82, 83, 84, 85, 86, 87, 88, 89] (by kernel_rfl) (Gw.drew _) Gw.trans (by rw [hsz]; kernel_rfl) (by kernel_rfl) ?_ ?_ ?_
  · intro f hf
    simp only [List.mem_cons, List.not_mem_nil, or_false] at hf
    rcases hf with rfl | rfl | rfl | rfl | rfl | rfl | rfl | rfl | rfl | rfl | rfl | rfl | rfl | rfl | rfl | rfl | rfl | rfl | rfl | rfl <;> intro v a b h g <;> first | exact IsV.mono h
  · refine ⟨?_, ?_, ?_, ?_, ?_, ?_, ?_, ?_, ?_, ?_, ?_, ?_, ?_, ?_, ?_, ?_, ?_, ?_, ?_, ?_, trivial⟩
    · refine owes_v (Go.Op.fieldAddr 61 (Go.Operand.tmp 8) 0) 0 [] (by kernel_rfl) (by kernel_rfl) (by kernel_rfl) rfl fun vals w1 ρ hG hF hρ hcst hfun => ?_
      have e8 : ρ (.tmp 8) = .pointer (some ⟨bx, 0, none⟩) := ((hρ 8).trans (slotO [] (by kernel_rfl))).trans sl8
      clear hρ hF hcst hfun sl8 fin
      exact opv_val (by go_simp <;> rfl) ⟨gw_self _, rfl⟩
    · refine owes_v (Go.Op.load 9 (Go.Operand.tmp 70)) 9 [0] (by kernel_rfl) (by kernel_rfl) (by kernel_rfl) rfl fun vals w1 ρ hG hF hρ hcst hfun => ?_
      have e70 : ρ (.tmp 70) = .pointer (some ⟨bx, 0, none⟩) := ((hρ 70).trans (slotJ [0] (by rw [hsz]; decide) (by kernel_rfl))).trans (hF 0 (by decide))
      have k := hs.out w1 hG
      clear hρ hF hcst hfun sl8 fin
      exact opv_val (by go_simp <;> rfl) ⟨gw_self _, rfl⟩
    · refine owes_v (Go.Op.call { callee := Go.Callee.value (Go.Operand.func 29), args := #[Go.Operand.tmp 71], argTypes := #[9] }) 4 [1] (by kernel_rfl) (by kernel_rfl) (by kernel_rfl) rfl fun vals w1 ρ hG hF hρ hcst hfun => ?_
      have e71 : ρ (.tmp 71) = .string s := ((hρ 71).trans (slotJ [1] (by rw [hsz]; decide) (by kernel_rfl))).trans (hF 1 (by decide))
      clear hρ hF hcst sl8 fin
      exact opv_enter (by go_simp <;> rfl) (of_ret17 (hg ▸ rgood_s s w1))
    · refine owes_v (Go.Op.unOp Go.UnOp.not 4 (Go.Operand.tmp 72)) 4 [2] (by kernel_rfl) (by kernel_rfl) (by kernel_rfl) rfl fun vals w1 ρ hG hF hρ hcst hfun => ?_
      have e72 : ρ (.tmp 72) = .bool false := ((hρ 72).trans (slotJ [2] (by rw [hsz]; decide) (by kernel_rfl))).trans (hF 2 (by decide))
      clear hρ hF hcst hfun sl8 fin
      exact opv_val (by go_simp <;> rfl) ⟨gw_self _, rfl⟩
    · exact owes_mvj 3 73 (by kernel_rfl) (by kernel_rfl) (by kernel_rfl) (by kernel_rfl) (by rw [hsz]; decide) (fun v w h => h)
    · exact owes_no 4 true false (by decide) (by kernel_rfl) (by kernel_rfl) (fun _ _ h => h) (by rw [hsz]; kernel_rfl) (fun _ => rfl)
    · exact owes_no 4 true false (by decide) (by kernel_rfl) (by kernel_rfl) (fun _ _ h => h) (by rw [hsz]; kernel_rfl) (fun _ => rfl)
    · exact owes_no 4 true false (by decide) (by kernel_rfl) (by kernel_rfl) (fun _ _ h => h) (by rw [hsz]; kernel_rfl) (fun _ => rfl)
    · exact owes_un 7 true (by kernel_rfl) (by kernel_rfl) (fun _ _ h => h) (by rw [hsz]; kernel_rfl) (fun _ => rfl)
    · exact owes_un 7 true (by kernel_rfl) (by kernel_rfl) (fun _ _ h => h) (by rw [hsz]; kernel_rfl) (fun _ => rfl)
    · exact owes_un 7 true (by kernel_rfl) (by kernel_rfl) (fun _ _ h => h) (by rw [hsz]; kernel_rfl) (fun _ => rfl)
    · exact owes_un 7 true (by kernel_rfl) (by kernel_rfl) (fun _ _ h => h) (by rw [hsz]; kernel_rfl) (fun _ => rfl)
    · exact owes_un 7 true (by kernel_rfl) (by kernel_rfl) (fun _ _ h => h) (by rw [hsz]; kernel_rfl) (fun _ => rfl)
    · exact owes_un 7 true (by kernel_rfl) (by kernel_rfl) (fun _ _ h => h) (by rw [hsz]; kernel_rfl) (fun _ => rfl)
    · exact owes_un 7 true (by kernel_rfl) (by kernel_rfl) (fun _ _ h => h) (by rw [hsz]; kernel_rfl) (fun _ => rfl)
    · exact owes_un 7 true (by kernel_rfl) (by kernel_rfl) (fun _ _ h => h) (by rw [hsz]; kernel_rfl) (fun _ => rfl)
    · exact owes_un 7 true (by kernel_rfl) (by kernel_rfl) (fun _ _ h => h) (by rw [hsz]; kernel_rfl) (fun _ => rfl)
    · exact owes_un 7 true (by kernel_rfl) (by kernel_rfl) (fun _ _ h => h) (by rw [hsz]; kernel_rfl) (fun _ => rfl)
    · exact owes_no 4 true false (by decide) (by kernel_rfl) (by kernel_rfl) (fun _ _ h => h) (by rw [hsz]; kernel_rfl) (fun _ => rfl)
    · refine owes_v (Go.Op.pick (Go.Operand.tmp 74) (Go.Operand.const (Go.Value.bool true)) (Go.Operand.tmp 88)) 4 [4, 18] (by kernel_rfl) (by kernel_rfl) (by kernel_rfl) rfl fun vals w1 ρ hG hF hρ hcst hfun => ?_
      have e74 : ρ (.tmp 74) = .bool true := ((hρ 74).trans (slotJ [4, 18] (by rw [hsz]; decide) (by kernel_rfl))).trans (hF 4 (by decide))
      have e88 : ρ (.tmp 88) = undef := ((hρ 88).trans (slotJ [4, 18] (by rw [hsz]; decide) (by kernel_rfl))).trans (hF 18 (by decide))
      clear hρ hF hfun sl8 fin
      exact opv_val (by go_simp <;> rfl) ⟨gw_self _, rfl⟩
  · intro vals w1 hG hF
    exact fin vals w1 hG (hF 19 (by decide +kernel))
theorem rckb_r (Q : Exit → Act → World → Prop) (a0 : Act) (w : World) (bx : Nat) (s : ByteArray) (hs : Hid (∀ W, Below w.heap.size w W → W.cell? ⟨bx, 0, none⟩ = some (.string s))) (hg : goodS s = true) (hsz : a0.tmps.size = 99) (sl7 : a0.tmps.getD 7 undef = .int .i64 0) (sl8 : a0.tmps.getD 8 undef = .pointer (some ⟨bx, 0, none⟩))
    (fin : ∀ (vals : Nat → Value) (w1 : World), Below w.heap.size w w1 → (IsV (.bool false)) (vals 19) w1 → Q .normal (putD vals [70, 71, 72, 73, 74, 75, 76, 77, 78, 79, 80, 81, 82, 83, 84, 85, 86, 87, 88, 89] 0 a0) w1) :
    (Code.region 19 (regIn Try.f12 19) true).wp Try.prog Q a0 w := by
  refine region_by (G := fun w w1 => Below w.heap.size w w1) [IsV (.pointer (some ⟨bx, 0, none⟩)),
    IsV (.string s),
    IsV (.bool true),
    IsV (.bool false),
    IsV (.bool false),
    IsV (.int .i64 0),
    IsV (.bool false),
    IsV (.bool false),
    IsV undef,
    IsV undef,
    IsV undef,
    IsV undef,
    IsV undef,
    IsV undef,
    IsV undef,
    IsV undef,
    IsV undef,
    IsV undef,
    IsV (.bool false),
    IsV (.bool false)]
    [70, 71, 72, 73, 74, 75, 76, 77, 78, 79, 80, 81, 82, 83, 84, 85, 86, 87, 88, 89] (by kernel_rfl) (Gw.drew _) Gw.trans (by rw [hsz]; kernel_rfl) (by kernel_rfl) ?_ ?_ ?_
  · intro f hf
    simp only [List.mem_cons, List.not_mem_nil, or_false] at hf
    rcases hf with rfl | rfl | rfl | rfl | rfl | rfl | rfl | rfl | rfl | rfl | rfl | rfl | rfl | rfl | rfl | rfl | rfl | rfl | rfl | rfl <;> intro v a b h g <;> first | exact IsV.mono h
  · refine ⟨?_, ?_, ?_, ?_, ?_, ?_, ?_, ?_, ?_, ?_, ?_, ?_, ?_, ?_, ?_, ?_, ?_, ?_, ?_, ?_, trivial⟩
    · refine owes_v (Go.Op.fieldAddr 61 (Go.Operand.tmp 8) 0) 0 [] (by kernel_rfl) (by kernel_rfl) (by kernel_rfl) rfl fun vals w1 ρ hG hF hρ hcst hfun => ?_
      have e8 : ρ (.tmp 8) = .pointer (some ⟨bx, 0, none⟩) := ((hρ 8).trans (slotO [] (by kernel_rfl))).trans sl8
      clear hρ hF hcst hfun sl7 sl8 fin
      exact opv_val (by go_simp <;> rfl) ⟨gw_self _, rfl⟩
    · refine owes_v (Go.Op.load 9 (Go.Operand.tmp 70)) 9 [0] (by kernel_rfl) (by kernel_rfl) (by kernel_rfl) rfl fun vals w1 ρ hG hF hρ hcst hfun => ?_
      have e70 : ρ (.tmp 70) = .pointer (some ⟨bx, 0, none⟩) := ((hρ 70).trans (slotJ [0] (by rw [hsz]; decide) (by kernel_rfl))).trans (hF 0 (by decide))
      have k := hs.out w1 hG
      clear hρ hF hcst hfun sl7 sl8 fin
      exact opv_val (by go_simp <;> rfl) ⟨gw_self _, rfl⟩
    · refine owes_v (Go.Op.call { callee := Go.Callee.value (Go.Operand.func 29), args := #[Go.Operand.tmp 71], argTypes := #[9] }) 4 [1] (by kernel_rfl) (by kernel_rfl) (by kernel_rfl) rfl fun vals w1 ρ hG hF hρ hcst hfun => ?_
      have e71 : ρ (.tmp 71) = .string s := ((hρ 71).trans (slotJ [1] (by rw [hsz]; decide) (by kernel_rfl))).trans (hF 1 (by decide))
      clear hρ hF hcst sl7 sl8 fin
      exact opv_enter (by go_simp <;> rfl) (of_ret17 (hg ▸ rgood_s s w1))
    · refine owes_v (Go.Op.unOp Go.UnOp.not 4 (Go.Operand.tmp 72)) 4 [2] (by kernel_rfl) (by kernel_rfl) (by kernel_rfl) rfl fun vals w1 ρ hG hF hρ hcst hfun => ?_
      have e72 : ρ (.tmp 72) = .bool true := ((hρ 72).trans (slotJ [2] (by rw [hsz]; decide) (by kernel_rfl))).trans (hF 2 (by decide))
      clear hρ hF hcst hfun sl7 sl8 fin
      exact opv_val (by go_simp <;> rfl) ⟨gw_self _, rfl⟩
    · exact owes_mvj 3 73 (by kernel_rfl) (by kernel_rfl) (by kernel_rfl) (by kernel_rfl) (by rw [hsz]; decide) (fun v w h => h)
    · refine owes_vt 4 false (Go.Op.move (Go.Operand.tmp 7)) 3 [] (by kernel_rfl) (by kernel_rfl) (by kernel_rfl) (fun _ _ h => h) (by rw [hsz]; kernel_rfl) (by kernel_rfl) rfl fun vals w1 ρ hG hF hρ hcst hfun => ?_
      have e7 : ρ (.tmp 7) = .int .i64 0 := ((hρ 7).trans (slotO [] (by kernel_rfl))).trans sl7
      clear hρ hF hcst hfun sl7 sl8 fin
      exact opv_val (by go_simp <;> rfl) ⟨gw_self _, rfl⟩
    · refine owes_vt 4 false (Go.Op.binOp Go.BinOp.gtr 3 (Go.Operand.tmp 75) (Go.Operand.const (Go.Value.int Go.IntKind.i64 0)) 3) 4 [5] (by kernel_rfl) (by kernel_rfl) (by kernel_rfl) (fun _ _ h => h) (by rw [hsz]; kernel_rfl) (by kernel_rfl) rfl fun vals w1 ρ hG hF hρ hcst hfun => ?_
      have e75 : ρ (.tmp 75) = .int .i64 0 := ((hρ 75).trans (slotJ [5] (by rw [hsz]; decide) (by kernel_rfl))).trans (hF 5 (by decide))
      clear hρ hF hfun sl7 sl8 fin
      exact opv_val (by go_simp <;> rfl) ⟨gw_self _, rfl⟩
    · refine owes_vt 4 false (Go.Op.move (Go.Operand.tmp 76)) 4 [6] (by kernel_rfl) (by kernel_rfl) (by kernel_rfl) (fun _ _ h => h) (by rw [hsz]; kernel_rfl) (by kernel_rfl) rfl fun vals w1 ρ hG hF hρ hcst hfun => ?_
      have e76 : ρ (.tmp 76) = .bool false := ((hρ 76).trans (slotJ [6] (by rw [hsz]; decide) (by kernel_rfl))).trans (hF 6 (by decide))
      clear hρ hF hcst hfun sl7 sl8 fin
      exact opv_val (by go_simp <;> rfl) ⟨gw_self _, rfl⟩
    · exact owes_no 7 false true (by decide) (by kernel_rfl) (by kernel_rfl) (fun _ _ h => h) (by rw [hsz]; kernel_rfl) (fun _ => rfl)
    · exact owes_no 7 false true (by decide) (by kernel_rfl) (by kernel_rfl) (fun _ _ h => h) (by rw [hsz]; kernel_rfl) (fun _ => rfl)
    · exact owes_no 7 false true (by decide) (by kernel_rfl) (by kernel_rfl) (fun _ _ h => h) (by rw [hsz]; kernel_rfl) (fun _ => rfl)
    · exact owes_no 7 false true (by decide) (by kernel_rfl) (by kernel_rfl) (fun _ _ h => h) (by rw [hsz]; kernel_rfl) (fun _ => rfl)
    · exact owes_no 7 false true (by decide) (by kernel_rfl) (by kernel_rfl) (fun _ _ h => h) (by rw [hsz]; kernel_rfl) (fun _ => rfl)
    · exact owes_no 7 false true (by decide) (by kernel_rfl) (by kernel_rfl) (fun _ _ h => h) (by rw [hsz]; kernel_rfl) (fun _ => rfl)
    · exact owes_no 7 false true (by decide) (by kernel_rfl) (by kernel_rfl) (fun _ _ h => h) (by rw [hsz]; kernel_rfl) (fun _ => rfl)
    · exact owes_no 7 false true (by decide) (by kernel_rfl) (by kernel_rfl) (fun _ _ h => h) (by rw [hsz]; kernel_rfl) (fun _ => rfl)
    · exact owes_no 7 false true (by decide) (by kernel_rfl) (by kernel_rfl) (fun _ _ h => h) (by rw [hsz]; kernel_rfl) (fun _ => rfl)
    · exact owes_no 7 false true (by decide) (by kernel_rfl) (by kernel_rfl) (fun _ _ h => h) (by rw [hsz]; kernel_rfl) (fun _ => rfl)
    · refine owes_vt 4 false (Go.Op.pick (Go.Operand.tmp 77) (Go.Operand.tmp 87) (Go.Operand.const (Go.Value.bool false))) 4 [7, 17] (by kernel_rfl) (by kernel_rfl) (by kernel_rfl) (fun _ _ h => h) (by rw [hsz]; kernel_rfl) (by kernel_rfl) rfl fun vals w1 ρ hG hF hρ hcst hfun => ?_
      have e77 : ρ (.tmp 77) = .bool false := ((hρ 77).trans (slotJ [7, 17] (by rw [hsz]; decide) (by kernel_rfl))).trans (hF 7 (by decide))
      have e87 : ρ (.tmp 87) = undef := ((hρ 87).trans (slotJ [7, 17] (by rw [hsz]; decide) (by kernel_rfl))).trans (hF 17 (by decide))
      clear hρ hF hfun sl7 sl8 fin
      exact opv_val (by go_simp <;> rfl) ⟨gw_self _, rfl⟩
    · refine owes_v (Go.Op.pick (Go.Operand.tmp 74) (Go.Operand.const (Go.Value.bool true)) (Go.Operand.tmp 88)) 4 [4, 18] (by kernel_rfl) (by kernel_rfl) (by kernel_rfl) rfl fun vals w1 ρ hG hF hρ hcst hfun => ?_
      have e74 : ρ (.tmp 74) = .bool false := ((hρ 74).trans (slotJ [4, 18] (by rw [hsz]; decide) (by kernel_rfl))).trans (hF 4 (by decide))
      have e88 : ρ (.tmp 88) = .bool false := ((hρ 88).trans (slotJ [4, 18] (by rw [hsz]; decide) (by kernel_rfl))).trans (hF 18 (by decide))
      clear hρ hF hfun sl7 sl8 fin
      exact opv_val (by go_simp <;> rfl) ⟨gw_self _, rfl⟩
  · intro vals w1 hG hF
    exact fin vals w1 hG (hF 19 (by decide +kernel))
theorem rckc_r (Q : Exit → Act → World → Prop) (a0 : Act) (w : World) (bx bg M c j : Nat) (ad : Addr) (s u : ByteArray) (r : Bool) (hs : Hid (∀ W, Below w.heap.size w W → W.cell? ⟨bx, 0, none⟩ = some (.string s) ∧ W.cell? ⟨bg, 1, none⟩ = some (.slice (some ad) M c) ∧ W.cell? (ad.add (j * 2)) = some (.string u))) (hg : goodS s = true) (hr : leS s u = r) (p1 : (0 : Int) ≤ (j : Int)) (p2 : (j : Int) + 1 < (M : Int)) (p3 : (M : Int) ≤ 100) (hsz : a0.tmps.size = 99) (sl1 : a0.tmps.getD 1 undef = .pointer (some ⟨bg, 0, none⟩)) (sl7 : a0.tmps.getD 7 undef = .int .i64 ((j : Int) + 1)) (sl8 : a0.tmps.getD 8 undef = .pointer (some ⟨bx, 0, none⟩))
    (fin : ∀ (vals : Nat → Value) (w1 : World), Below w.heap.size w w1 → (IsV (.bool r)) (vals 19) w1 → Q .normal (putD vals [70, 71, 72, 73, 74, 75, 76, 77, 78, 79, 80, 81, 82, 83, 84, 85, 86, 87, 88, 89] 0 a0) w1) :
    (Code.region 19 (regIn Try.f12 19) true).wp Try.prog Q a0 w := by
  refine region_by (G := fun w w1 => Below w.heap.size w w1) [IsV (.pointer (some ⟨bx, 0, none⟩)),
    IsV (.string s),
    IsV (.bool true),
    IsV (.bool false),
    IsV (.bool false),
    IsV (.int .i64 ((j : Int) + 1)),
    IsV (.bool true),
    IsV (.bool true),
    IsV (.pointer (some ⟨bg, 1, none⟩)),
    IsV (.slice (some ad) M c),
    IsV (.int .i64 ((j : Int) + 1)),
    IsV (.int .i64 j),
    IsV (.pointer (some (ad.add (j * 2)))),
    IsV (.pointer (some (ad.add (j * 2)))),
    IsV (.string u),
    IsV (.pointer (some ⟨bx, 0, none⟩)),
    IsV (.string s),
    IsV (.bool r),
    IsV (.bool r),
    IsV (.bool r)]
    [70, 71, 72, 73, 74, 75, 76, 77, 78, 79, 80, 81, 82, 83, 84, 85, 86, 87, 88, 89] (by kernel_rfl) (Gw.drew _) Gw.trans (by rw [hsz]; kernel_rfl) (by kernel_rfl) ?_ ?_ ?_
  · intro f hf
    simp only [List.mem_cons, List.not_mem_nil, or_false] at hf
    rcases hf with rfl | rfl | rfl | rfl | rfl | rfl | rfl | rfl | rfl | rfl | rfl | rfl | rfl | rfl | rfl | rfl | rfl | rfl | rfl | rfl <;> intro v a b h g <;> first | exact IsV.mono h
  · refine ⟨?_, ?_, ?_, ?_, ?_, ?_, ?_, ?_, ?_, ?_, ?_, ?_, ?_, ?_, ?_, ?_, ?_, ?_, ?_, ?_, trivial⟩
    · refine owes_v (Go.Op.fieldAddr 61 (Go.Operand.tmp 8) 0) 0 [] (by kernel_rfl) (by kernel_rfl) (by kernel_rfl) rfl fun vals w1 ρ hG hF hρ hcst hfun => ?_
      have e8 : ρ (.tmp 8) = .pointer (some ⟨bx, 0, none⟩) := ((hρ 8).trans (slotO [] (by kernel_rfl))).trans sl8
      clear hρ hF hcst hfun sl1 sl7 sl8 fin
      exact opv_val (by go_simp <;> rfl) ⟨gw_self _, rfl⟩
    · refine owes_v (Go.Op.load 9 (Go.Operand.tmp 70)) 9 [0] (by kernel_rfl) (by kernel_rfl) (by kernel_rfl) rfl fun vals w1 ρ hG hF hρ hcst hfun => ?_
      have e70 : ρ (.tmp 70) = .pointer (some ⟨bx, 0, none⟩) := ((hρ 70).trans (slotJ [0] (by rw [hsz]; decide) (by kernel_rfl))).trans (hF 0 (by decide))
      have k := (hs.out w1 hG).1
      clear hρ hF hcst hfun sl1 sl7 sl8 fin
      exact opv_val (by go_simp <;> rfl) ⟨gw_self _, rfl⟩
    · refine owes_v (Go.Op.call { callee := Go.Callee.value (Go.Operand.func 29), args := #[Go.Operand.tmp 71], argTypes := #[9] }) 4 [1] (by kernel_rfl) (by kernel_rfl) (by kernel_rfl) rfl fun vals w1 ρ hG hF hρ hcst hfun => ?_
      have e71 : ρ (.tmp 71) = .string s := ((hρ 71).trans (slotJ [1] (by rw [hsz]; decide) (by kernel_rfl))).trans (hF 1 (by decide))
      clear hρ hF hcst sl1 sl7 sl8 fin
      exact opv_enter (by go_simp <;> rfl) (of_ret17 (hg ▸ rgood_s s w1))
    · refine owes_v (Go.Op.unOp Go.UnOp.not 4 (Go.Operand.tmp 72)) 4 [2] (by kernel_rfl) (by kernel_rfl) (by kernel_rfl) rfl fun vals w1 ρ hG hF hρ hcst hfun => ?_
      have e72 : ρ (.tmp 72) = .bool true := ((hρ 72).trans (slotJ [2] (by rw [hsz]; decide) (by kernel_rfl))).trans (hF 2 (by decide))
      clear hρ hF hcst hfun sl1 sl7 sl8 fin
      exact opv_val (by go_simp <;> rfl) ⟨gw_self _, rfl⟩
    · exact owes_mvj 3 73 (by kernel_rfl) (by kernel_rfl) (by kernel_rfl) (by kernel_rfl) (by rw [hsz]; decide) (fun v w h => h)
    · refine owes_vt 4 false (Go.Op.move (Go.Operand.tmp 7)) 3 [] (by kernel_rfl) (by kernel_rfl) (by kernel_rfl) (fun _ _ h => h) (by rw [hsz]; kernel_rfl) (by kernel_rfl) rfl fun vals w1 ρ hG hF hρ hcst hfun => ?_
      have e7 : ρ (.tmp 7) = .int .i64 ((j : Int) + 1) := ((hρ 7).trans (slotO [] (by kernel_rfl))).trans sl7
      clear hρ hF hcst hfun sl1 sl7 sl8 fin
      exact opv_val (by go_simp <;> rfl) ⟨gw_self _, rfl⟩
    · refine owes_vt 4 false (Go.Op.binOp Go.BinOp.gtr 3 (Go.Operand.tmp 75) (Go.Operand.const (Go.Value.int Go.IntKind.i64 0)) 3) 4 [5] (by kernel_rfl) (by kernel_rfl) (by kernel_rfl) (fun _ _ h => h) (by rw [hsz]; kernel_rfl) (by kernel_rfl) rfl fun vals w1 ρ hG hF hρ hcst hfun => ?_
      have e75 : ρ (.tmp 75) = .int .i64 ((j : Int) + 1) := ((hρ 75).trans (slotJ [5] (by rw [hsz]; decide) (by kernel_rfl))).trans (hF 5 (by decide))
      have q : (0 : Int) < (j : Int) + 1 := by omega
      clear hρ hF hfun sl1 sl7 sl8 fin
      exact opv_val (by go_simp <;> rfl) ⟨gw_self _, rfl⟩
    · refine owes_vt 4 false (Go.Op.move (Go.Operand.tmp 76)) 4 [6] (by kernel_rfl) (by kernel_rfl) (by kernel_rfl) (fun _ _ h => h) (by rw [hsz]; kernel_rfl) (by kernel_rfl) rfl fun vals w1 ρ hG hF hρ hcst hfun => ?_
      have e76 : ρ (.tmp 76) = .bool true := ((hρ 76).trans (slotJ [6] (by rw [hsz]; decide) (by kernel_rfl))).trans (hF 6 (by decide))
      clear hρ hF hcst hfun sl1 sl7 sl8 fin
      exact opv_val (by go_simp <;> rfl) ⟨gw_self _, rfl⟩
    · refine owes_vt 7 true (Go.Op.fieldAddr 32 (Go.Operand.tmp 1) 1) 0 [] (by kernel_rfl) (by kernel_rfl) (by kernel_rfl) (fun _ _ h => h) (by rw [hsz]; kernel_rfl) (by kernel_rfl) rfl fun vals w1 ρ hG hF hρ hcst hfun => ?_
      have e1 : ρ (.tmp 1) = .pointer (some ⟨bg, 0, none⟩) := ((hρ 1).trans (slotO [] (by kernel_rfl))).trans sl1
      clear hρ hF hcst hfun sl1 sl7 sl8 fin
      exact opv_val (by go_simp <;> rfl) ⟨gw_self _, rfl⟩
    · refine owes_vt 7 true (Go.Op.load 30 (Go.Operand.tmp 78)) 30 [8] (by kernel_rfl) (by kernel_rfl) (by kernel_rfl) (fun _ _ h => h) (by rw [hsz]; kernel_rfl) (by kernel_rfl) rfl fun vals w1 ρ hG hF hρ hcst hfun => ?_
      have e78 : ρ (.tmp 78) = .pointer (some ⟨bg, 1, none⟩) := ((hρ 78).trans (slotJ [8] (by rw [hsz]; decide) (by kernel_rfl))).trans (hF 8 (by decide))
      have k := (hs.out w1 hG).2.1
      clear hρ hF hcst hfun sl1 sl7 sl8 fin
      exact opv_val (by go_simp <;> rfl) ⟨gw_self _, rfl⟩
    · refine owes_vt 7 true (Go.Op.move (Go.Operand.tmp 7)) 3 [] (by kernel_rfl) (by kernel_rfl) (by kernel_rfl) (fun _ _ h => h) (by rw [hsz]; kernel_rfl) (by kernel_rfl) rfl fun vals w1 ρ hG hF hρ hcst hfun => ?_
      have e7 : ρ (.tmp 7) = .int .i64 ((j : Int) + 1) := ((hρ 7).trans (slotO [] (by kernel_rfl))).trans sl7
      clear hρ hF hcst hfun sl1 sl7 sl8 fin
      exact opv_val (by go_simp <;> rfl) ⟨gw_self _, rfl⟩
    · refine owes_vt 7 true (Go.Op.binOp Go.BinOp.sub 3 (Go.Operand.tmp 80) (Go.Operand.const (Go.Value.int Go.IntKind.i64 1)) 3) 3 [10] (by kernel_rfl) (by kernel_rfl) (by kernel_rfl) (fun _ _ h => h) (by rw [hsz]; kernel_rfl) (by kernel_rfl) rfl fun vals w1 ρ hG hF hρ hcst hfun => ?_
      have e80 : ρ (.tmp 80) = .int .i64 ((j : Int) + 1) := ((hρ 80).trans (slotJ [10] (by rw [hsz]; decide) (by kernel_rfl))).trans (hF 10 (by decide))
      have kw : IntKind.i64.wrap (j : Int) = (j : Int) := wrapIn (by omega) (by omega)
      clear hρ hF hfun sl1 sl7 sl8 fin
      exact opv_val (by go_simp <;> rfl) ⟨gw_self _, rfl⟩
    · refine owes_vt 7 true (Go.Op.indexAddr 30 (Go.Operand.tmp 79) (Go.Operand.tmp 81)) 0 [9, 11] (by kernel_rfl) (by kernel_rfl) (by kernel_rfl) (fun _ _ h => h) (by rw [hsz]; kernel_rfl) (by kernel_rfl) rfl fun vals w1 ρ hG hF hρ hcst hfun => ?_
      have e79 : ρ (.tmp 79) = .slice (some ad) M c := ((hρ 79).trans (slotJ [9, 11] (by rw [hsz]; decide) (by kernel_rfl))).trans (hF 9 (by decide))
      have e81 : ρ (.tmp 81) = .int .i64 j := ((hρ 81).trans (slotJ [9, 11] (by rw [hsz]; decide) (by kernel_rfl))).trans (hF 11 (by decide))
      have q : (j : Int) < (M : Int) := by omega
      clear hρ hF hcst hfun sl1 sl7 sl8 fin
      exact opv_val (by go_simp <;> rfl) ⟨gw_self _, rfl⟩
    · refine owes_vt 7 true (Go.Op.fieldAddr 61 (Go.Operand.tmp 82) 0) 0 [12] (by kernel_rfl) (by kernel_rfl) (by kernel_rfl) (fun _ _ h => h) (by rw [hsz]; kernel_rfl) (by kernel_rfl) rfl fun vals w1 ρ hG hF hρ hcst hfun => ?_
      have e82 : ρ (.tmp 82) = .pointer (some (ad.add (j * 2))) := ((hρ 82).trans (slotJ [12] (by rw [hsz]; decide) (by kernel_rfl))).trans (hF 12 (by decide))
      clear hρ hF hcst hfun sl1 sl7 sl8 fin
      exact opv_val (by go_simp <;> rfl) ⟨gw_self _, rfl⟩
    · refine owes_vt 7 true (Go.Op.load 9 (Go.Operand.tmp 83)) 9 [13] (by kernel_rfl) (by kernel_rfl) (by kernel_rfl) (fun _ _ h => h) (by rw [hsz]; kernel_rfl) (by kernel_rfl) rfl fun vals w1 ρ hG hF hρ hcst hfun => ?_
      have e83 : ρ (.tmp 83) = .pointer (some (ad.add (j * 2))) := ((hρ 83).trans (slotJ [13] (by rw [hsz]; decide) (by kernel_rfl))).trans (hF 13 (by decide))
      have k := (hs.out w1 hG).2.2
      clear hρ hF hcst hfun sl1 sl7 sl8 fin
      exact opv_val (by go_simp <;> rfl) ⟨gw_self _, rfl⟩
    · refine owes_vt 7 true (Go.Op.fieldAddr 61 (Go.Operand.tmp 8) 0) 0 [] (by kernel_rfl) (by kernel_rfl) (by kernel_rfl) (fun _ _ h => h) (by rw [hsz]; kernel_rfl) (by kernel_rfl) rfl fun vals w1 ρ hG hF hρ hcst hfun => ?_
      have e8 : ρ (.tmp 8) = .pointer (some ⟨bx, 0, none⟩) := ((hρ 8).trans (slotO [] (by kernel_rfl))).trans sl8
      clear hρ hF hcst hfun sl1 sl7 sl8 fin
      exact opv_val (by go_simp <;> rfl) ⟨gw_self _, rfl⟩
    · refine owes_vt 7 true (Go.Op.load 9 (Go.Operand.tmp 85)) 9 [15] (by kernel_rfl) (by kernel_rfl) (by kernel_rfl) (fun _ _ h => h) (by rw [hsz]; kernel_rfl) (by kernel_rfl) rfl fun vals w1 ρ hG hF hρ hcst hfun => ?_
      have e85 : ρ (.tmp 85) = .pointer (some ⟨bx, 0, none⟩) := ((hρ 85).trans (slotJ [15] (by rw [hsz]; decide) (by kernel_rfl))).trans (hF 15 (by decide))
      have k := (hs.out w1 hG).1
      clear hρ hF hcst hfun sl1 sl7 sl8 fin
      exact opv_val (by go_simp <;> rfl) ⟨gw_self _, rfl⟩
    · refine owes_vt 7 true (Go.Op.binOp Go.BinOp.geq 9 (Go.Operand.tmp 84) (Go.Operand.tmp 86) 9) 4 [14, 16] (by kernel_rfl) (by kernel_rfl) (by kernel_rfl) (fun _ _ h => h) (by rw [hsz]; kernel_rfl) (by kernel_rfl) rfl fun vals w1 ρ hG hF hρ hcst hfun => ?_
      have e84 : ρ (.tmp 84) = .string u := ((hρ 84).trans (slotJ [14, 16] (by rw [hsz]; decide) (by kernel_rfl))).trans (hF 14 (by decide))
      have e86 : ρ (.tmp 86) = .string s := ((hρ 86).trans (slotJ [14, 16] (by rw [hsz]; decide) (by kernel_rfl))).trans (hF 16 (by decide))
      have q := hr
      unfold leS at q
      clear hρ hF hcst hfun sl1 sl7 sl8 fin
      exact opv_val (by go_simp <;> first | rfl | exact q | (rw [← q]; exact less_tri _ _) | exact less_tri _ _) ⟨gw_self _, rfl⟩
    · refine owes_vt 4 false (Go.Op.pick (Go.Operand.tmp 77) (Go.Operand.tmp 87) (Go.Operand.const (Go.Value.bool false))) 4 [7, 17] (by kernel_rfl) (by kernel_rfl) (by kernel_rfl) (fun _ _ h => h) (by rw [hsz]; kernel_rfl) (by kernel_rfl) rfl fun vals w1 ρ hG hF hρ hcst hfun => ?_
      have e77 : ρ (.tmp 77) = .bool true := ((hρ 77).trans (slotJ [7, 17] (by rw [hsz]; decide) (by kernel_rfl))).trans (hF 7 (by decide))
      have e87 : ρ (.tmp 87) = .bool r := ((hρ 87).trans (slotJ [7, 17] (by rw [hsz]; decide) (by kernel_rfl))).trans (hF 17 (by decide))
      clear hρ hF hfun sl1 sl7 sl8 fin
      exact opv_val (by go_simp <;> rfl) ⟨gw_self _, rfl⟩
    · refine owes_v (Go.Op.pick (Go.Operand.tmp 74) (Go.Operand.const (Go.Value.bool true)) (Go.Operand.tmp 88)) 4 [4, 18] (by kernel_rfl) (by kernel_rfl) (by kernel_rfl) rfl fun vals w1 ρ hG hF hρ hcst hfun => ?_
      have e74 : ρ (.tmp 74) = .bool false := ((hρ 74).trans (slotJ [4, 18] (by rw [hsz]; decide) (by kernel_rfl))).trans (hF 4 (by decide))
      have e88 : ρ (.tmp 88) = .bool r := ((hρ 88).trans (slotJ [4, 18] (by rw [hsz]; decide) (by kernel_rfl))).trans (hF 18 (by decide))
      clear hρ hF hfun sl1 sl7 sl8 fin
      exact opv_val (by go_simp <;> rfl) ⟨gw_self _, rfl⟩
  · intro vals w1 hG hF
    exact fin vals w1 hG (hF 19 (by decide +kernel))
theorem all_snoc {N : Nat} {l : List Int} {n : Nat} (h : n < l.length) (h1 : (l.take n).all (okP N) = true) (h2 : okP N l[n] = true) : (l.take (n + 1)).all (okP N) = true := by
  rw [List.take_succ_eq_append_getElem h, List.all_append, h1]
  simp [h2]
theorem all_bad {N : Nat} {l : List Int} {n : Nat} (h : n < l.length) (h2 : ¬ okP N l[n] = true) : ¬ l.all (okP N) = true := fun e => by
  rw [List.all_eq_true] at e
  exact h2 (e _ (List.getElem_mem h))
theorem rcheck_c (w : World) (g : Gv) (hg : g.At w w.heap.size) (hs : FewP g) : Calls Try.prog 12 #[g.v] w (RetP (.int .i64 (ckG g)) w) := by
  obtain ⟨R, hR⟩ : ∃ R, R = ckG g := ⟨_, rfl⟩
  rw [← hR]
  have HR := Lib.hid hR
  have HG := Lib.hid hg
  have HP := Lib.hid hs.2.2.1
  have hsn := hs.1
  have hsr := hs.2.1
  obtain ⟨A, ca, A2, ca2, ns, rs⟩ := g
  obtain ⟨N, hN⟩ : ∃ N, N = ns.length := ⟨_, rfl⟩
  obtain ⟨M, hM⟩ : ∃ M, M = rs.length := ⟨_, rfl⟩
  have q0 : (N : Int) ≤ 60 := by rw [hN]; exact Int.ofNat_le.2 hsn
  have q1 : (M : Int) ≤ 80 := by rw [hM]; exact Int.ofNat_le.2 hsr
  have HN := Lib.hid (And.intro hN hM)
  have HR2 := Lib.hid (show R = if ckNodes N ns = 0 then (if 64 < M then 3 else ckRoots N emptyS rs) else ckNodes N ns from by rw [hR, hN, hM]; rfl)
  unfold Gv.v Gv.vn Gv.vr
  simp only at HP ⊢
  rw [← hN, ← hM]
  clear hg hs hsn hsr hN hM hR
  go_enter Try.func12, Try.ntmps12
  go_wp2_with fail
  obtain ⟨W1, hW1⟩ : ∃ W1, W1 = w.alloc (.cells #[.slice A N ca, .slice A2 M ca2] 32) := ⟨_, rfl⟩
  have HW1 := Lib.hid (show Bk W1 w.heap.size 32 #[.slice A N ca, .slice A2 M ca2] ∧ Below w.heap.size w W1 from by
    rw [hW1]
    exact ⟨Bk.new w _ _, Gw.alloc w _⟩)
  rw [← hW1]
  clear hW1
  go_loopw [4] (fun i W => ∃ k : Nat, i = .int .i64 k ∧ k ≤ N ∧ Hid (ckNodes N (ns.drop k) = ckNodes N ns) ∧ Below W1.heap.size W1 W) (fun i _ => N - (Go.RowKit.intOf i).toNat)
  case atStart => exact ⟨0, rfl, Nat.zero_le _, Lib.hid rfl, Below.refl _ _⟩
  case round =>
    obtain ⟨k, rfl, hk, hck, hB⟩ := hrel
    have HBk := Lib.hid hB
    have hb1 := HW1.out.1.below hB HW1.out.1.lt
    have c0 := hb1.two.1
    have hl1 := hb1.lt
    have HBw := Lib.hid (show Below w.heap.size w wr from HW1.out.2.trans (hB.mono HW1.out.2.size))
    by_cases hlt : k < N
    · have hkn : k < ns.length := by rw [← HN.out.1]; exact hlt
      obtain ⟨x, hx⟩ : ∃ x, x = ns[k] := ⟨_, rfl⟩
      obtain ⟨ad, rfl, hc2, hc3, hxa⟩ : ∃ ad, A = some ad ∧ wr.cell? (ad.add (k * 2)) = some x.vp ∧ wr.cell? ⟨(ad.add (k * 2)).block, (ad.add (k * 2)).off + 1, none⟩ = some x.vd ∧ x.At wr wr.heap.size := by
        obtain ⟨ad, e, _, h1, h2, h3⟩ := (HG.out.n.below HBw.out) k hkn
        exact ⟨ad, e, by rw [hx]; exact h1, by rw [hx]; exact h2, by rw [hx]; exact h3.more HBw.out.size⟩
      have hsz := HP.out x (by rw [hx]; exact List.getElem_mem _)
      have HS := Lib.hid (ckNodes_drop N ns k hkn)
      rw [← hx] at HS
      have HZ := Lib.hid (show ∀ z, ckNode N x = z → z ≠ 0 → R = z from fun z hz h0 => by
        have e : ckNodes N ns = z := by rw [← hck.out, HS.out, if_neg (by rw [hz]; exact h0), hz]
        rw [HR2.out, e, if_neg h0])
      have HO := Lib.hid (show ckNode N x = 0 → ckNodes N (ns.drop (k + 1)) = ckNodes N ns from fun h0 => by rw [← hck.out, HS.out, if_pos h0])
      have p1 : (0 : Int) ≤ (k : Int) := by omega
      have p2 : (k : Int) < (N : Int) := by omega
      clear hx hkn hB hck hb1 HS
      obtain ⟨xA, xc, xD, xd, xps, xbs⟩ := x
      obtain ⟨xn, hxn⟩ : ∃ n, n = xps.length := ⟨_, rfl⟩
      obtain ⟨xm, hxm⟩ : ∃ n, n = xbs.length := ⟨_, rfl⟩
      unfold Nv.vp at hc2
      unfold Nv.vd at hc3
      simp only at hc2 hc3 hsz
      rw [← hxn] at hc2 hsz
      rw [← hxm] at hc3 hsz
      have HX := Lib.hid (show ∀ b, xps.all (okP N) = b → ckNode N ⟨xA, xc, xD, xd, xps, xbs⟩ = if b = true then (if 64 < xn ∨ 1024 < xm then 3 else 0) else 1 from fun b hb => by unfold ckNode; rw [hb, hxn, hxm])
      have hcl := cell_lt hc2
      have hcl' : (ad.add (k * 2)).block < wr.heap.size := hcl
      obtain ⟨W2, hW2⟩ : ∃ W2, W2 = wr.alloc (.cells #[.slice xA xn xc, .slice xD xm xd] 60) := ⟨_, rfl⟩
      have HW2 := Lib.hid (show Bk W2 wr.heap.size 60 #[.slice xA xn xc, .slice xD xm xd] ∧ Below wr.heap.size wr W2 from by
        rw [hW2]
        exact ⟨Bk.new wr _ _, Gw.alloc wr _⟩)
      have HXY := Lib.hid (hxa.up HW2.out.2)
      have hW2' := Lib.hid hW2
      have HL := Lib.hid hxn
      have hq1 : (xn : Int) ≤ 70 := by have := hsz.1; omega
      have hq2 : (xm : Int) ≤ 1100 := by have := hsz.2; omega
      clear hxa hcl hW2 hxn hxm hsz
      go_wp2_with fail
      rw [← hW2'.out]
      clear hc2 hc3 hcl' c0
      have HBo := Lib.hid (show Below W1.heap.size W1 W2 from HBk.out.trans (HW2.out.2.mono HBk.out.size))
      have HBz := Lib.hid (show Below w.heap.size w W2 from HBw.out.trans (HW2.out.2.mono HBw.out.size))
      obtain ⟨bx, hbx⟩ : ∃ bx, bx = wr.heap.size := ⟨_, rfl⟩
      rw [← hbx] at HW2 ⊢
      clear hbx
      go_loopw [6] (fun i W => ∃ n : Nat, i = .int .i64 n ∧ n ≤ xn ∧ Hid ((xps.take n).all (okP N) = true) ∧ Below W2.heap.size W2 W) (fun i _ => xn - (Go.RowKit.intOf i).toNat)
      case atStart => exact ⟨0, rfl, Nat.zero_le _, Lib.hid rfl, Below.refl _ _⟩
      case round =>
        obtain ⟨n, rfl, hn, ht, hB⟩ := hrel
        have hb1 := HW2.out.1.below hB HW2.out.1.lt
        have HBn := Lib.hid hB
        have d0 := hb1.two.1
        have d1 := hb1.two.2
        by_cases hln : n < xn
        · have h1 : n < xps.length := by rw [← HL.out]; exact hln
          obtain ⟨x, hx⟩ : ∃ y, y = xps[n] := ⟨_, rfl⟩
          obtain ⟨aa, rfl, haa, hca⟩ := (HXY.out.p.below hB) n h1
          rw [← hx] at hca
          unfold iV at hca
          have p3 : (0 : Int) ≤ (n : Int) := by omega
          have p4 : (n : Int) < (xn : Int) := by omega
          have HBd := Lib.hid (show ¬ okP N x = true → R = 1 from fun e => by
            have ha : xps.all (okP N) = false := by
              cases hc : xps.all (okP N) with
              | false => rfl
              | true => exact absurd hc (all_bad h1 (by rw [← hx]; exact e))
            have := HX.out false ha
            exact HZ.out 1 (by rw [this]; rfl) (by decide))
          have HGd := Lib.hid (show okP N x = true → (xps.take (n + 1)).all (okP N) = true from fun e => all_snoc h1 ht.out (by rw [← hx]; exact e))
          clear hx haa h1 ht hB hb1
          by_cases h0 : x < 0
          · have HRf := Lib.hid (HBd.out (fun e => by have := okP_iff.1 e; omega))
            go_wp2_with fail
            go_ret
            rw [HRf.out]
            exact ⟨rfl, HBz.out.trans (HBn.out.mono HBz.out.size)⟩
          · by_cases h2 : (N : Int) < x
            · have HRf := Lib.hid (HBd.out (fun e => by have := okP_iff.1 e; omega))
              go_wp2_with fail
              go_ret
              rw [HRf.out]
              exact ⟨rfl, HBz.out.trans (HBn.out.mono HBz.out.size)⟩
            · have HT := Lib.hid (HGd.out (okP_iff.2 (by omega)))
              go_wp2_with fail
              go_roundw
              case rel => exact ⟨n + 1, by go_num, by omega, HT, HBn.out⟩
              case measure => simp [Go.RowKit.intOf]; omega
        · have hnx : n = xn := by omega
          have HC := Lib.hid (HX.out true (by
            have := ht.out
            rwa [hnx, List.take_of_length_le (by rw [← HL.out]; exact Nat.le_refl _)] at this))
          clear hnx ht hb1 hB
          by_cases g1 : 64 < xn
          · have t1 : (64 : Int) < (xn : Int) := by omega
            have HRf := Lib.hid (HZ.out 3 (by rw [HC.out, if_pos rfl, if_pos (.inl g1)]) (by decide))
            go_wp2_with fail
            go_ret
            rw [HRf.out]
            exact ⟨rfl, HBz.out.trans (HBn.out.mono HBz.out.size)⟩
          · have t1 : ¬ (64 : Int) < (xn : Int) := by omega
            by_cases g2 : 1024 < xm
            · have t2 : (1024 : Int) < (xm : Int) := by omega
              have HRf := Lib.hid (HZ.out 3 (by rw [HC.out, if_pos rfl, if_pos (.inr g2)]) (by decide))
              go_wp2_with fail
              go_ret
              rw [HRf.out]
              exact ⟨rfl, HBz.out.trans (HBn.out.mono HBz.out.size)⟩
            · have t2 : ¬ (1024 : Int) < (xm : Int) := by omega
              have HK := Lib.hid (HO.out (by rw [HC.out, if_pos rfl, if_neg (by omega)]))
              have HBy := Lib.hid (HBo.out.trans (HBn.out.mono HBo.out.size))
              go_wp2_with fail
              go_roundw
              case rel => exact ⟨k + 1, by go_num, by omega, HK, HBy.out⟩
              case measure => simp [Go.RowKit.intOf]; omega
    · have hkN : k = N := by omega
      have hck0 : ckNodes N ns = 0 := by rw [← hck.out, hkN, HN.out.1, List.drop_length]; rfl
      have hR3 : R = if 64 < M then 3 else ckRoots N emptyS rs := by rw [HR2.out, if_pos hck0]
      have c1 := hb1.two.2
      clear hkN hck hck0 hb1 c0
      by_cases h64 : 64 < M
      · have t1 : (64 : Int) < (M : Int) := by omega
        have HRf := Lib.hid (hR3.trans (if_pos h64))
        clear hR3 hB
        go_wp2_with fail
        go_ret
        rw [HRf.out]
        exact ⟨rfl, HBw.out⟩
      · have t1 : ¬ (64 : Int) < (M : Int) := by omega
        have HR3 := Lib.hid (hR3.trans (if_neg h64))
        clear hR3
        go_wp2_with fail
        clear c1 hl1 hlt hk h64 t1
        obtain ⟨W0, hW0⟩ : ∃ W0, W0 = wr := ⟨_, rfl⟩
        rw [← hW0] at hB ⊢
        clear hW0
        go_loopw [7] (fun i W => ∃ k : Nat, i = .int .i64 k ∧ k ≤ M ∧ Hid (R = ckRoots N (prevS rs k) (rs.drop k)) ∧ Below W1.heap.size W1 W) (fun i _ => M - (Go.RowKit.intOf i).toNat)
        case atStart => exact ⟨0, rfl, Nat.zero_le _, Lib.hid HR3.out, hB⟩
        case round =>
          obtain ⟨k, rfl, hk, hck, hB⟩ := hrel
          have HBk := Lib.hid hB
          have hb1 := HW1.out.1.below hB HW1.out.1.lt
          have c1 := hb1.two.2
          have hl1 := hb1.lt
          have HBw := Lib.hid (show Below w.heap.size w wr from HW1.out.2.trans (hB.mono HW1.out.2.size))
          by_cases hlt : k < M
          · have hkn : k < rs.length := by rw [← HN.out.2]; exact hlt
            obtain ⟨x, hx⟩ : ∃ x, x = rs[k] := ⟨_, rfl⟩
            obtain ⟨ad, rfl, hc2, hc3, hprev⟩ : ∃ ad, A2 = some ad ∧ wr.cell? (ad.add (k * 2)) = some (.string x.s) ∧ wr.cell? ⟨(ad.add (k * 2)).block, (ad.add (k * 2)).off + 1, none⟩ = some (.int .i64 x.t) ∧ ∀ j, k = j + 1 → wr.cell? (ad.add (j * 2)) = some (.string (prevS rs k)) := by
              obtain ⟨ad, e, _, h1, h2⟩ := (HG.out.r.below HBw.out) k hkn
              refine ⟨ad, e, by rw [hx]; exact h1, by rw [hx]; exact h2, fun j hj => ?_⟩
              have hjn : j < rs.length := by omega
              obtain ⟨ad', e', _, h3, _⟩ := (HG.out.r.below HBw.out) j hjn
              have he : ad = ad' := by rw [e] at e'; injection e'
              subst he
              rw [h3, hj]
              show some (Value.string _) = some (Value.string (((rs[j]?).map (·.s)).getD emptyS))
              rw [List.getElem?_eq_getElem hjn]; rfl
            have HS := Lib.hid (hck.out.trans (ckRoots_drop N (prevS rs k) rs k hkn))
            rw [← hx] at HS
            have HPn := Lib.hid (show prevS rs (k + 1) = x.s from by show ((rs[k]?).map (·.s)).getD emptyS = _; rw [List.getElem?_eq_getElem hkn, hx]; rfl)
            have p1 : (0 : Int) ≤ (k : Int) := by omega
            have p2 : (k : Int) < (M : Int) := by omega
            obtain ⟨s, t⟩ := x
            simp only at hc2 hc3 HS HPn
            have hcl := cell_lt hc2
            have hcl' : (ad.add (k * 2)).block < wr.heap.size := hcl
            obtain ⟨W2, hW2⟩ : ∃ W2, W2 = wr.alloc (.cells #[.string s, .int .i64 t] 61) := ⟨_, rfl⟩
            have HW2 := Lib.hid (show Bk W2 wr.heap.size 61 #[.string s, .int .i64 t] ∧ Below wr.heap.size wr W2 from by
              rw [hW2]
              exact ⟨Bk.new wr _ _, Gw.alloc wr _⟩)
            have hW2' := Lib.hid hW2
            have HBo := Lib.hid (show Below W1.heap.size W1 W2 from HBk.out.trans (HW2.out.2.mono HBk.out.size))
            have HBz := Lib.hid (show Below w.heap.size w W2 from HBw.out.trans (HW2.out.2.mono HBw.out.size))
            have HQ := Lib.hid (show ∀ W, Below W2.heap.size W2 W → W.cell? ⟨wr.heap.size, 0, none⟩ = some (.string s) from fun W b => (HW2.out.1.below b HW2.out.1.lt).cell 0)
            have HQ3 := Lib.hid (show ∀ j, k = j + 1 → ∀ W, Below W2.heap.size W2 W → W.cell? ⟨wr.heap.size, 0, none⟩ = some (.string s) ∧ W.cell? ⟨w.heap.size, 1, none⟩ = some (.slice (some ad) M ca2) ∧ W.cell? (ad.add (j * 2)) = some (.string (prevS rs k)) from fun j hj W b =>
              ⟨HQ.out W b, ((hb1.below HW2.out.2 hb1.lt).below b (hb1.below HW2.out.2 hb1.lt).lt).cell 1, ((HW2.out.2.trans (b.mono HW2.out.2.size)).cell (cell_lt (hprev j hj))).trans (hprev j hj)⟩)
            clear hx hkn hB hck hb1 hcl hW2 hprev
            by_cases hg : goodS s = true
            · go_wp2_with fail
              rw [← hW2'.out]
              clear hc2 hc3 hcl' c1 hl1
              cases hle : leS s (prevS rs k) with
              | true =>
                have HRf := Lib.hid (show R = 4 from by rw [HS.out, if_neg (by rw [hle]; simp)])
                cases k with
                | zero => exact absurd (leS_empty hg) (by rw [show emptyS = prevS rs 0 from rfl, hle]; simp)
                | succ j =>
                  have p3 : (0 : Int) ≤ (j : Int) := by omega
                  have p4 : (j : Int) + 1 < (M : Int) := by omega
                  have p5 : (M : Int) ≤ 100 := by omega
                  refine rckc_r _ _ _ wr.heap.size w.heap.size M ca2 j ad s (prevS rs (j + 1)) true (Lib.hid (HQ3.out j rfl)) hg hle p3 p4 p5 rfl rfl rfl rfl ?_
                  intro vals w7 hG h89
                  unfold IsV at h89
                  simp only [putD, Act.put, List.setIfInBounds_toArray, List.set_cons_zero, List.set_cons_succ, h89]
                  have HB7 := Lib.hid (HBz.out.trans (hG.mono HBz.out.size))
                  clear hG h89
                  go_wp2_with fail
                  go_ret
                  rw [HRf.out]
                  exact ⟨rfl, HB7.out⟩
              | false =>
                have HS2 := Lib.hid (show R = if okP N t = true then ckRoots N s (rs.drop (k + 1)) else 1 from by rw [HS.out, if_pos ⟨hg, hle⟩])
                cases k with
                | zero =>
                  refine rckb_r _ _ _ wr.heap.size s HQ hg rfl rfl rfl ?_
                  intro vals w7 hG h89
                  unfold IsV at h89
                  simp only [putD, Act.put, List.setIfInBounds_toArray, List.set_cons_zero, List.set_cons_succ, h89]
                  have HB7 := Lib.hid (HBz.out.trans (hG.mono HBz.out.size))
                  have HBy := Lib.hid (HBo.out.trans (hG.mono HBo.out.size))
                  have d1 := (HW2.out.1.below hG HW2.out.1.lt).cell 1
                  have d1 : w7.cell? ⟨wr.heap.size, 1, none⟩ = some (.int .i64 t) := d1
                  clear hG h89
                  by_cases h0 : t < 0
                  · have HRf := Lib.hid (show R = 1 from by rw [HS2.out, if_neg (fun e => by have := okP_iff.1 e; omega)])
                    go_wp2_with fail
                    go_ret
                    rw [HRf.out]
                    exact ⟨rfl, HB7.out⟩
                  · by_cases h2 : (N : Int) < t
                    · have HRf := Lib.hid (show R = 1 from by rw [HS2.out, if_neg (fun e => by have := okP_iff.1 e; omega)])
                      go_wp2_with fail
                      go_ret
                      rw [HRf.out]
                      exact ⟨rfl, HB7.out⟩
                    · have HRn := Lib.hid (show R = ckRoots N (prevS rs (0 + 1)) (rs.drop (0 + 1)) from by rw [HPn.out, HS2.out, if_pos (okP_iff.2 (by omega))])
                      go_wp2_with fail
                      go_roundw
                      case rel => exact ⟨0 + 1, by go_num, by omega, HRn, HBy.out⟩
                      case measure => simp [Go.RowKit.intOf] <;> omega
                | succ j =>
                  have p3 : (0 : Int) ≤ (j : Int) := by omega
                  have p4 : (j : Int) + 1 < (M : Int) := by omega
                  have p5 : (M : Int) ≤ 100 := by omega
                  refine rckc_r _ _ _ wr.heap.size w.heap.size M ca2 j ad s (prevS rs (j + 1)) false (Lib.hid (HQ3.out j rfl)) hg hle p3 p4 p5 rfl rfl rfl rfl ?_
                  intro vals w7 hG h89
                  unfold IsV at h89
                  simp only [putD, Act.put, List.setIfInBounds_toArray, List.set_cons_zero, List.set_cons_succ, h89]
                  have HB7 := Lib.hid (HBz.out.trans (hG.mono HBz.out.size))
                  have HBy := Lib.hid (HBo.out.trans (hG.mono HBo.out.size))
                  have d1 := (HW2.out.1.below hG HW2.out.1.lt).cell 1
                  have d1 : w7.cell? ⟨wr.heap.size, 1, none⟩ = some (.int .i64 t) := d1
                  clear hG h89
                  by_cases h0 : t < 0
                  · have HRf := Lib.hid (show R = 1 from by rw [HS2.out, if_neg (fun e => by have := okP_iff.1 e; omega)])
                    go_wp2_with fail
                    go_ret
                    rw [HRf.out]
                    exact ⟨rfl, HB7.out⟩
                  · by_cases h2 : (N : Int) < t
                    · have HRf := Lib.hid (show R = 1 from by rw [HS2.out, if_neg (fun e => by have := okP_iff.1 e; omega)])
                      go_wp2_with fail
                      go_ret
                      rw [HRf.out]
                      exact ⟨rfl, HB7.out⟩
                    · have HRn := Lib.hid (show R = ckRoots N (prevS rs ((j + 1) + 1)) (rs.drop ((j + 1) + 1)) from by rw [HPn.out, HS2.out, if_pos (okP_iff.2 (by omega))])
                      go_wp2_with fail
                      go_roundw
                      case rel => exact ⟨(j + 1) + 1, by go_num, by omega, HRn, HBy.out⟩
                      case measure => simp [Go.RowKit.intOf] <;> omega
            · have hg0 : goodS s = false := by simpa using hg
              have HRf := Lib.hid (show R = 4 from by rw [HS.out, if_neg (by rw [hg0]; simp)])
              go_wp2_with fail
              rw [← hW2'.out]
              refine rcka_r _ _ _ wr.heap.size s (k : Int) HQ hg0 rfl rfl ?_
              intro vals w7 hG h89
              unfold IsV at h89
              simp only [putD, Act.put, List.setIfInBounds_toArray, List.set_cons_zero, List.set_cons_succ, h89]
              have HB7 := Lib.hid (HBz.out.trans (hG.mono HBz.out.size))
              clear hG h89
              go_wp2_with fail
              go_ret
              rw [HRf.out]
              exact ⟨rfl, HB7.out⟩
          · have hkM : k = M := by omega
            have HRf := Lib.hid (show R = 0 from by rw [hck.out, hkM, HN.out.2, List.drop_length]; rfl)
            clear hkM hck hb1 hB
            go_wp2_with fail
            go_ret
            rw [HRf.out]
            exact ⟨rfl, HBw.out⟩
end Go.Proofs.Ytidaimcndbhefaa
