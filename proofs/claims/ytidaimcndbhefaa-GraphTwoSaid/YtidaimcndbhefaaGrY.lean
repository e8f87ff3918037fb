/- graph.Trim: what it works on; its first loop. Conditions: lengths. -/
import Derived.Test.YtidaimcndbhefaaGrX
import Derived.Test.YtidaimcndbhefaaGrQ
namespace Go.Proofs.Ytidaimcndbhefaa
set_option linter.unusedVariables false
set_option linter.unusedSimpArgs false
open Go.RowKit Go.Maps
/-- What Trim works on: the graph's box, the result's, the new numbers, the map, what is reached. -/
structure TS (w W : World) (q mb qr : Nat) (vn vr : Value) (N : Nat) (T : List Int) (P : List (Int × Int)) (L : List Bool) : Prop where
  gb : Bk W w.heap.size 25 #[vn, vr]
  rb : Bk W (w.heap.size + 1) 25 #[.slice none 0 0, .slice none 0 0]
  to : Ow iV 3 W (w.heap.size + 2) (.slice (some ⟨q, 0, none⟩) N N) T
  mp : MapIs W (some mb) P
  re : Ow tV 4 W (w.heap.size + 2) (.slice (some ⟨qr, 0, none⟩) N N) L
  ord : w.heap.size + 2 ≤ q ∧ q < mb ∧ mb < qr
  bl : Below w.heap.size w W
section
variable {w W W' : World} {q mb qr : Nat} {vn vr : Value} {N : Nat} {T T' : List Int} {P P' : List (Int × Int)} {L : List Bool}
theorem map_below (h : MapIs W (some mb) P) (hb : Below W.heap.size W W') : MapIs W' (some mb) P := h.kept (Kept.of_below hb (fun _ => False)) (fun _ _ f => f)
theorem TS.below (h : TS w W q mb qr vn vr N T P L) (hb : Below W.heap.size W W') : TS w W' q mb qr vn vr N T P L :=
  ⟨h.gb.below hb h.gb.lt, h.rb.below hb h.rb.lt, h.to.below hb, map_below h.mp hb, h.re.below hb, h.ord, h.bl.trans (hb.mono h.bl.size)⟩
theorem TS.put (h : TS w W q mb qr vn vr N T P L) (hm : MapIs W' (some mb) P') (hk : Kept (fun c => some mb = some c) W W') : TS w W' q mb qr vn vr N T P' L := by
  have hord := h.ord
  have hn : ∀ c, c ≠ mb → ¬ (some mb = some c) := fun c hc e => hc (by injection e with e; exact e.symm)
  refine ⟨hk.bk h.gb (hn _ (by omega)), hk.bk h.rb (hn _ (by omega)), hk.ow h.to (fun c e => hn _ (by injection e with e; have e3 : q = c := e; omega)), hm, hk.ow h.re (fun c e => hn _ (by injection e with e; have e3 : qr = c := e; omega)), hord, h.bl.trans (hk.below h.bl.size (fun c e => by injection e with e; omega))⟩
theorem TS.store (h : TS w W q mb qr vn vr N T P L) {k : Nat} (hk : k < T.length) (z : Int) : TS w (W.setCell ⟨q, k, none⟩ (.int .i64 z)) q mb qr vn vr N (T.set k z) P L := by
  have hord := h.ord
  refine ⟨h.gb.far (p := ⟨q, k, none⟩) (show w.heap.size ≠ q by omega) _, h.rb.far (p := ⟨q, k, none⟩) (show w.heap.size + 1 ≠ q by omega) _, h.to.set hk z, h.mp.kept (Kept.set W q k _) (fun b e e2 => by injection e with e; omega), (h.re.kept (grown_set W ⟨q, k, none⟩ _) (.inr (fun e => by injection e with e; have e3 : qr = q := e; omega))), hord, h.bl.setCell (p := ⟨q, k, none⟩) (show w.heap.size ≤ q by omega) _⟩
end
theorem Kept.bel {S : Nat → Prop} {a b c : World} (h : Kept S a b) (hb : Below a.heap.size b c) : Kept S a c :=
  ⟨hb.os.trans h.os, hb.tape.trans h.tape, hb.output.trans h.output, Nat.le_trans h.size hb.size, fun i hi hn => (hb.block i hi).trans (h.block i hi hn)⟩
theorem Kept.gr {a b : World} {q : Nat} (h : Kept (fun b => b = q) a b) : a.grownBy b (some q) := ⟨h.os, h.tape, h.output, h.size, fun k hk hn => h.block k hk (fun e => hn (by rw [e]))⟩
theorem trim_res {tmps : Array Value} {W : World} {g : Nat} {a b y : Value} (hb : Bk W g 25 #[a, b]) (h2 : tmps.getD 4 undef = .pointer (some ⟨g, 0, none⟩)) (h3 : tmps.getD 5 undef = y) :
    (results Try.f15 tmps).run Try.prog W = .ok (.tuple #[.agg #[a, b], y]) W := by
  have hl := run_loadVar_row (P := Try.prog) W g 25 25 #[a, b] (0, 0) _ hb Try.underlying25 rfl (by kernel_rfl)
  have h2' : tmps[4]?.getD undef = .pointer (some ⟨g, 0, none⟩) := by simpa using h2
  have h3' : tmps[5]?.getD undef = y := by simpa using h3
  simp [results, Try.results15, h2', h3', asAddr, hl]
theorem set_same {α : Type} {l : List α} {k : Nat} {z : α} (h : l[k]? = some z) : l.set k z = l := by
  obtain ⟨h1, h2⟩ := List.getElem?_eq_some_iff.1 h
  subst h2
  exact List.set_getElem_self h1
set_option maxHeartbeats 4000000
set_option maxRecDepth 100000
theorem trim_g (w : World) (g : Gv) (hg : g.At w w.heap.size) (hs : g.Small) (hs2 : g.r.length ≤ 100000) (hpt : ∀ x ∈ g.n, ∀ p ∈ x.ps, (Lit.int .i64 p).wf = true) (hrt : ∀ r ∈ g.r, (Lit.int .i64 r.t).wf = true) (AK : Option Addr) (ck : Nat) (keep : List Int) (hr : Rd iV w w.heap.size AK keep) (hl : keep.length ≤ 100000) :
    Calls Try.prog 15 #[g.v, .slice AK keep.length ck] w fun e w' => ∃ (L : List Bool) (g' : Gv) (q : Nat), e = .returned (.tuple #[g'.v, .slice (some ⟨q, 0, none⟩) g.n.length g.n.length]) ∧ NOwn w' w.heap.size g'.vn g'.n ∧ ROwn w' w.heap.size g'.vr g'.r ∧ Ow iV 3 w' w.heap.size (.slice (some ⟨q, 0, none⟩) g.n.length g.n.length) (toB L 0) ∧
      g'.n.map Nv.m = trimN (pairsB L 0 0) g.n L ∧ g'.r = g.r.map (fun r => ⟨r.s, newP (pairsB L 0 0) r.t⟩) ∧ L.length = g.n.length ∧ (∀ p, hasG g.n.length p = true → (seenG L p = true ↔ Rch g.n (g.r.map (·.t) ++ keep) p)) ∧ Below w.heap.size w w' := by
  have HG := Lib.hid hg
  have HSm := Lib.hid hs
  have HW := Lib.hid (And.intro hpt hrt)
  have HR := Lib.hid hr
  obtain ⟨GA, ca, A2, ca2, ns, rs⟩ := g
  simp only at hs2 HW
  obtain ⟨N, hN⟩ : ∃ N, N = ns.length := ⟨_, rfl⟩
  obtain ⟨M, hM⟩ : ∃ M, M = rs.length := ⟨_, rfl⟩
  obtain ⟨K, hK⟩ : ∃ K, K = keep.length := ⟨_, rfl⟩
  have HN := Lib.hid (And.intro hN hM)
  have HK := Lib.hid hK
  have q0 : (N : Int) ≤ 1000000 := by rw [hN]; exact Int.ofNat_le.2 hs.1
  have q1 : (M : Int) ≤ 100000 := by rw [hM]; exact Int.ofNat_le.2 hs2
  have HLen := Lib.hid (show ((rs.map (·.t)) ++ keep).length ≤ 1000000 ∧ (rs.map (·.t)).length ≤ 1000000 ∧ keep.length ≤ 1000000 from by simp only [List.length_append, List.length_map]; omega)
  unfold Gv.v Gv.vn Gv.vr
  simp only
  rw [← hN, ← hM, ← hK]
  clear hg hs hs2 hpt hrt hr hl hN hM hK
  have hmm := @run_makeMap Try.prog
  go_enter Try.func15, Try.ntmps15
  go_wp2_with (at_make; refine wp_make (f := iV) oneI rfl _ _ rfl 0 rfl (w.heap.size + 2) N _ _ _ _ rfl rfl rfl rfl (by omega) (by decide) (by simp) ?_; rintro q w2 hq ho2 hb2 _; have H2 := Lib.hid (And.intro ho2 hb2); have HQ := Lib.hid (show q = w.heap.size + 2 from by rw [hq]; simp); have hz2 : w.heap.size + 3 ≤ w2.heap.size := (by have := ho2.ge.2; rw [hq] at this; simp at this; omega); clear ho2 hb2 hq)
  obtain ⟨W3, hW3⟩ : ∃ W3, W3 = w2.alloc (.map #[] 0) := ⟨_, rfl⟩
  obtain ⟨mb, hmb⟩ : ∃ mb, mb = w2.heap.size := ⟨_, rfl⟩
  have H3 : Bk W3 w.heap.size 25 #[.slice GA N ca, .slice A2 M ca2] ∧ Bk W3 (w.heap.size + 1) 25 #[.slice none 0 0, .slice none 0 0] ∧ Ow iV 3 W3 (w.heap.size + 2) (.slice (some ⟨q, 0, none⟩) N N) (List.replicate N 0) ∧ MapIs W3 (some mb) [] ∧ Below w.heap.size w W3 ∧ q < mb ∧ mb < W3.heap.size := by
    obtain ⟨o1, o2⟩ := H2.out
    have hg0 := ((Bk.new w 25 #[.slice GA N ca, .slice A2 M ca2]).alloc (.cells #[.slice none 0 0, .slice none 0 0] 25)).below o2 (by omega)
    have hg1 : Bk ((w.alloc (.cells #[.slice GA N ca, .slice A2 M ca2] 25)).alloc (.cells #[.slice none 0 0, .slice none 0 0] 25)) (w.heap.size + 1) 25 #[.slice none 0 0, .slice none 0 0] := by
      have := Bk.new (w.alloc (.cells #[.slice GA N ca, .slice A2 M ca2] 25)) 25 #[.slice none 0 0, .slice none 0 0]
      simpa using this
    have hg2 := hg1.below o2 (by omega)
    have b1 : Below w.heap.size w w2 := (((Below.refl _ _).alloc (Nat.le_refl _) _).alloc (by simp) _).trans (o2.mono (by omega))
    rw [hW3, hmb]
    exact ⟨hg0.alloc _, hg2.alloc _, o1.alloc _, tighten (l := []) (World.ownsMap_made w2 Try.prog 3 (plainElem Try.prog 3)), b1.alloc b1.size _, o1.ge.2, by simp⟩
  rw [← hmb, ← hW3]
  have H3 := Lib.hid H3
  clear hmb hW3 hz2 hmm H2
  refine trim_r _ _ _ w w.heap.size (mb + 1) GA A2 AK ca ca2 N M K ck ns rs keep (Lib.hid HN.out.1) (Lib.hid HN.out.2) HK HG HSm (Lib.hid H3.out.2.2.2.2.1) H3.out.1 (Lib.hid ((HR.out.below H3.out.2.2.2.2.1).more H3.out.2.2.2.2.1.size)) HLen (Lib.hid (by have := H3.out.2.2.2.2.2; omega)) rfl rfl rfl ?_
  intro vals w4 hG h26 h27 h28
  obtain ⟨qr, L, h26v, hre, hLl, hLs⟩ := h26
  unfold IsV at h27 h28
  simp only [putD, Act.put, List.setIfInBounds_toArray, List.set_cons_zero, List.set_cons_succ, h26v, h27, h28]
  have H4 := Lib.hid (show TS w w4 q mb qr (.slice GA N ca) (.slice A2 M ca2) N (List.replicate N 0) [] L from by
    obtain ⟨o1, o2, o3, o4, o5, o6, o7⟩ := H3.out
    have hqr := hre.ge.1
    have hqq := HQ.out
    exact ⟨o1.below hG o1.lt, o2.below hG o2.lt, o3.below hG, map_below o4 hG, hre.mono (by omega), ⟨by omega, o6, by omega⟩, o5.trans (hG.mono o5.size)⟩)
  have HL := Lib.hid (And.intro hLl hLs)
  clear h26v h27 h28 hre hLl hLs hG
  go_wp2_with fail
  go_loopw [28] (fun i W => ∃ (k : Nat) (T : List Int), i = .int .i64 k ∧ k ≤ N ∧ Hid (T.length = N ∧ T = toB (L.take k) 0 ++ List.replicate (N - k) 0) ∧ TS w W q mb qr (.slice GA N ca) (.slice A2 M ca2) N T (pairsB (L.take k) 0 0) L) (fun i _ => N - (Go.RowKit.intOf i).toNat)
  case atStart => exact ⟨0, _, rfl, Nat.zero_le _, Lib.hid ⟨List.length_replicate, by simp [toB]⟩, H4.out⟩
  case round =>
    obtain ⟨k, T, rfl, hk, hT, hS⟩ := hrel
    by_cases hlt : k < N
    · have hkL : k < L.length := by rw [HL.out.1]; exact hlt
      obtain ⟨y, hy⟩ : ∃ y, y = L[k] := ⟨_, rfl⟩
      have r0 : wr.cell? ⟨qr, k, none⟩ = some (.bool y) := by rw [hy]; exact hS.re.cell hkL
      have p1 : (0 : Int) ≤ (k : Int) := by omega
      have p2 : (k : Int) < (N : Int) := by omega
      have HS := Lib.hid hS
      have HY := Lib.hid (show L[k]? = some y from by rw [hy]; exact List.getElem?_eq_getElem hkL)
      have hTn : toB (L.take (k + 1)) 0 ++ List.replicate (N - (k + 1)) 0 = T.set k (if y = true then ((((L.take k).count true : Nat) : Int) + 1) else 0) := by
        rw [hT.out.2, List.take_succ_eq_append_getElem hkL, toB_snoc, ← hy]
        have e1 : (toB (L.take k) 0).length = k := by rw [toB_len, List.length_take]; omega
        rw [List.set_append_right _ _ (by omega), e1, Nat.sub_self, show N - k = (N - (k + 1)) + 1 by omega, List.replicate_succ, List.set_cons_zero]
        simp
      have HTn := Lib.hid hTn
      have hTl := hT.out.1
      clear hy hTn hS
      cases y with
      | false =>
        go_wp2_with fail
        go_roundw
        case rel =>
          obtain ⟨hkL, e⟩ := List.getElem?_eq_some_iff.1 HY.out
          refine ⟨k + 1, T, by go_num, by omega, Lib.hid ⟨hTl, ?_⟩, ?_⟩
          · rw [HTn.out]
            simp only [Bool.false_eq_true, if_false]
            have : T[k]? = some 0 := by
              rw [hT.out.2, List.getElem?_append_right (by rw [toB_len, List.length_take]; omega), toB_len, List.length_take, show k - min k L.length = 0 by omega, List.getElem?_replicate, if_pos (by omega)]
            exact (set_same this).symm
          · have e2 : pairsB (L.take (k + 1)) 0 0 = pairsB (L.take k) 0 0 := by
              rw [List.take_succ_eq_append_getElem hkL, pairs_snoc, e]; simp
            rw [e2]
            exact HS.out
        case measure => simp [Go.RowKit.intOf]; omega
      | true =>
        obtain ⟨pl, hpl⟩ : ∃ pl, pl = (pairsB (L.take k) 0 0).length := ⟨_, rfl⟩
        have hpl2 : pl = (L.take k).count true := by rw [hpl, pairs_len]
        have hpk : (pl : Int) ≤ (k : Int) := by
          have h1 : (L.take k).count true ≤ (L.take k).length := List.count_le_length
          rw [List.length_take] at h1
          omega
        have hlen : ∀ (ty : TypeId), (Builtin.len_ #[66] ty #[.map (some mb)]).run Try.prog wr = .ok (.int .i64 pl) wr := by rw [hpl]; exact HS.out.mp.len
        have HP := Lib.hid (And.intro hpl hpl2)
        have hw1 : (Lit.int .i64 ((k : Int) + 1)).wf = true := wfI (by omega) (by omega)
        have hw2 : (Lit.int .i64 ((pl : Int) + 1)).wf = true := wfI (by omega) (by omega)
        have HW12 := Lib.hid (And.intro hw1 hw2)
        have hp0 : (0 : Int) ≤ (pl : Int) := by omega
        have HTl := Lib.hid hTl
        clear hpl hpl2 hkL hw1 hw2 hTl
        go_wp2_with (refine wp_put_is rfl (.tmp 34) (.tmp 36) (.tmp 39) rfl rfl HS.out.mp ((k : Int) + 1) ((pl : Int) + 1) rfl rfl HW12.out.1 HW12.out.2 (by rw [← HP.out.1]; omega) ?_; intro w5 hm5 hk5; have hP5 : putI (pairsB (L.take k) 0 0) ((k : Int) + 1) ((pl : Int) + 1) = pairsB (L.take (k + 1)) 0 0 := (by obtain ⟨hkL, e⟩ := List.getElem?_eq_some_iff.1 HY.out; rw [HP.out.1]; exact put_pairs L k hkL e); rw [hP5] at hm5; have H5 := Lib.hid (HS.out.put hm5 hk5); have hlk := hm5.look HW12.out.1; have hz : (lookI (pairsB (L.take (k + 1)) 0 0) ((k : Int) + 1)).getD 0 = (pl : Int) + 1 := (by obtain ⟨hkL, e⟩ := List.getElem?_eq_some_iff.1 HY.out; rw [HP.out.2]; exact look_pairs L k hkL e); rw [hz] at hlk; have hTc := H5.out.to.cell (j := k) (by rw [HTl.out]; omega); have hTf := H5.out.to.free k; unfold iV at hTc; have H6 := Lib.hid (H5.out.store (k := k) (by rw [HTl.out]; omega) ((pl : Int) + 1)); clear hm5 hk5 hP5 hz)
        go_roundw
        case rel =>
          have X : ∃ (k' : Nat) (T' : List Int), (Value.int .i64 ((k : Int) + 1)) = .int .i64 k' ∧ k' ≤ N ∧ Hid (T'.length = N ∧ T' = toB (L.take k') 0 ++ List.replicate (N - k') 0) ∧ TS w (w5.setCell ⟨q, k, none⟩ (.int .i64 ((pl : Int) + 1))) q mb qr (.slice GA N ca) (.slice A2 M ca2) N T' (pairsB (L.take k') 0 0) L :=
            ⟨k + 1, T.set k ((pl : Int) + 1), by go_num, by omega, Lib.hid ⟨by rw [List.length_set]; exact HTl.out, by rw [HTn.out, HP.out.2]; rfl⟩, H6.out⟩
          first | exact X | (obtain ⟨k', T', x1, x2, x3, x4⟩ := X; exact ⟨_, _, _, ⟨k', x1, x2, T', x3, x4⟩, rfl, rfl, rfl⟩)
        case measure => simp [Go.RowKit.intOf]; omega
    · have hkN : k = N := by omega
      have hTe : T = toB L 0 := by rw [hT.out.2, hkN, Nat.sub_self, List.take_of_length_le (by rw [HL.out.1]; exact Nat.le_refl _)]; simp
      have hPe : pairsB (L.take k) 0 0 = pairsB L 0 0 := by rw [List.take_of_length_le (by rw [HL.out.1]; omega)]
      rw [hTe, hPe] at hS
      have HS := Lib.hid hS
      clear hS hT hTe hPe hkN
      have g0 := HS.out.gb.two.1
      have hgl := HS.out.gb.lt
      go_wp2_with fail
      obtain ⟨W1, hW1⟩ : ∃ W1, W1 = wr := ⟨_, rfl⟩
      rw [← hW1] at HS ⊢
      clear hlt g0 hgl hW1
      obtain ⟨ob, hob⟩ : ∃ ob, W1.heap.size = ob := ⟨_, rfl⟩
      rw [hob]
      have HOb := Lib.hid hob.symm
      clear hob
      go_loopw [51] (fun i W => ∃ (k m : Nat) (VA : Option Addr) (vc : Nat) (xs : List Nv), i = .int .i64 k ∧ k ≤ N ∧ Hid (xs.map Nv.m = trimN (pairsB L 0 0) (ns.take k) (L.take k)) ∧ Hid (xs.length = m ∧ m ≤ k) ∧ NOwn W (ob + 1) (.slice VA m vc) xs ∧ Bk W ob 25 #[.slice VA m vc, .slice none 0 0] ∧ Below ob W1 W) (fun i _ => N - (Go.RowKit.intOf i).toNat)
      case atStart =>
        refine ⟨0, 0, none, 0, [], rfl, Nat.zero_le _, Lib.hid rfl, Lib.hid ⟨rfl, Nat.le_refl _⟩, NOwn.nil _ _, ?_, ?_⟩
        · rw [HOb.out]; exact Bk.new _ _ _
        · rw [HOb.out]; exact Gw.alloc _ _
      case round =>
        obtain ⟨k, m, VA, vc, xs, rfl, hk, hm, hmx, ho, hb1, hB⟩ := hrel
        have hsz := hb1.lt
        have hSr : TS w wr q mb qr (.slice GA N ca) (.slice A2 M ca2) N (toB L 0) (pairsB L 0 0) L := HS.out.below (HOb.out ▸ hB)
        by_cases hlt : k < N
        · have hkl : k < ns.length := by rw [← HN.out.1]; exact hlt
          have hkL : k < L.length := by rw [HL.out.1]; exact hlt
          obtain ⟨x, hx⟩ : ∃ x, x = ns[k] := ⟨_, rfl⟩
          obtain ⟨y, hy⟩ : ∃ y, y = L[k] := ⟨_, rfl⟩
          have hbw : Below w.heap.size w wr := hSr.bl
          obtain ⟨ad, rfl, hc2, hc3, hxa⟩ : ∃ ad, GA = some ad ∧ wr.cell? (ad.add (k * 2)) = some x.vp ∧ wr.cell? ⟨(ad.add (k * 2)).block, (ad.add (k * 2)).off + 1, none⟩ = some x.vd ∧ x.At wr wr.heap.size := by
            obtain ⟨ad, e, _, h1, h2, h3⟩ := (HG.out.n.below hbw) k hkl
            exact ⟨ad, e, by rw [hx]; exact h1, by rw [hx]; exact h2, by rw [hx]; exact h3.more hbw.size⟩
          have hsm := HSm.out.2.2 x (by rw [hx]; exact List.getElem_mem _)
          have hwf := HW.out.1 x (by rw [hx]; exact List.getElem_mem _)
          have HC1 := Lib.hid (fun W (hb : Below wr.heap.size wr W) => numbered_c W x.A x.c mb x.ps (pairsB L 0 0) (hxa.up hb).p (map_below hSr.mp hb) (by omega) hwf)
          have HC2 := Lib.hid (fun W (hb : Below wr.heap.size wr W) => clone_c x.bs x.D x.d W (hxa.up hb).b (by omega))
          have hmm : ∀ z : Nv, z.m = (x.ps.map (newP (pairsB L 0 0)), x.bs) → y = true → (xs ++ [z]).map Nv.m = trimN (pairsB L 0 0) (ns.take (k + 1)) (L.take (k + 1)) ∧ (xs ++ [z]).length = m + 1 ∧ m + 1 ≤ k + 1 := fun z hz hyt => by
            rw [take_snoc ns k hkl, take_snoc L k hkL, trimN_snoc _ _ _ _ _ (by rw [List.length_take, List.length_take]; omega), ← hm.out, ← hy, hyt, List.map_append, List.length_append, hmx.out.1, if_pos rfl, ← hx]
            simp [hz, hmx.out.2]
          have hno : y = false → xs.map Nv.m = trimN (pairsB L 0 0) (ns.take (k + 1)) (L.take (k + 1)) := fun hyf => by
            rw [take_snoc ns k hkl, take_snoc L k hkL, trimN_snoc _ _ _ _ _ (by rw [List.length_take, List.length_take]; omega), ← hm.out, ← hy, hyf]
            simp
          have HMM := Lib.hid hmm
          have HNo := Lib.hid hno
          obtain ⟨z, hz⟩ : ∃ z, z = (if y = true then ((0 + (L.take k).count true : Nat) : Int) + 1 else 0) := ⟨_, rfl⟩
          have hto : wr.cell? ⟨q, k, none⟩ = some (.int .i64 z) := by
            have hkt : k < (toB L 0).length := by rw [toB_len]; exact hkL
            have h1 := hSr.to.cell hkt
            have h2 := toB_get L k hkL 0
            rw [List.getElem?_eq_getElem hkt, ← hy, ← hz] at h2
            injection h2 with h2
            rw [h2] at h1
            exact h1
          have hz1 : y = true → (0 : Int) < z := fun e => by rw [hz, if_pos e]; omega
          have hz2 : y = false → z = 0 := fun e => by rw [hz, if_neg (by simp [e])]
          obtain ⟨xA, xc, xD, xd, xps, xbs⟩ := x
          unfold Nv.vp at hc2
          unfold Nv.vd at hc3
          unfold NewP at HC2
          simp only at HC1 HC2 hc2 hc3 HMM
          obtain ⟨xn, hxn⟩ : ∃ n, n = xps.length := ⟨_, rfl⟩
          obtain ⟨xm, hxm⟩ : ∃ n, n = xbs.length := ⟨_, rfl⟩
          rw [← hxn] at hc2 HC1
          rw [← hxm] at hc3 HC2
          have p1 : (0 : Int) ≤ (k : Int) := by omega
          have p2 : (k : Int) < (N : Int) := by omega
          have HX := Lib.hid (And.intro hxn (And.intro hxm hmx.out.1))
          have hmN : (m : Int) ≤ 1000000 := by have := hmx.out.2; omega
          have HO := Lib.hid (And.intro ho (And.intro hb1 hB))
          have hcl := cell_lt hc2
          have hcl' : (ad.add (k * 2)).block < wr.heap.size := hcl
          have hql := hSr.to.ge.2
          have hva : (∀ a, VA = some a → ob + 1 ≤ a.block ∧ a.block < wr.heap.size) := fun a e => by
            subst e
            exact ⟨(ho.row.lt a.block rfl).1, (ho.row.lt a.block rfl).2⟩
          have HVA := Lib.hid hva
          have HMX := Lib.hid hmx.out
          have HB1 := Lib.hid hb1
          clear hx hxa hsm hmm hno hxn hxm hm hmx ho hB hkl hkL hbw hcl hva hwf hy hz hSr hb1
          cases y with
          | false =>
            obtain rfl := hz2 rfl
            have HX1 := Lib.hid (HNo.out rfl)
            clear hz1 hz2
            go_wp2_with fail
            go_roundw
            case rel =>
              have X : ∃ (k' m' : Nat) (VA' : Option Addr) (vc' : Nat) (xs' : List Nv), (Value.int .i64 ((k : Int) + 1)) = .int .i64 k' ∧ k' ≤ N ∧ Hid (xs'.map Nv.m = trimN (pairsB L 0 0) (ns.take k') (L.take k')) ∧ Hid (xs'.length = m' ∧ m' ≤ k') ∧ NOwn (wr.alloc (.cells #[.slice xA xn xc, .slice xD xm xd] 53)) (ob + 1) (.slice VA' m' vc') xs' ∧ Bk (wr.alloc (.cells #[.slice xA xn xc, .slice xD xm xd] 53)) ob 25 #[.slice VA' m' vc', .slice none 0 0] ∧ Below ob W1 (wr.alloc (.cells #[.slice xA xn xc, .slice xD xm xd] 53)) :=
                ⟨k + 1, m, VA, vc, xs, by go_num, by omega, HX1, Lib.hid ⟨HMX.out.1, by have := HMX.out.2; omega⟩, HO.out.1.below (Gw.alloc _ _), HO.out.2.1.alloc _, HO.out.2.2.alloc (by omega) _⟩
              exact X
            case measure => simp [Go.RowKit.intOf]; omega
          | true =>
            have hz3 : (0 : Int) < z := hz1 rfl
            clear hz1 hz2
            go_wp2_with fail
            obtain ⟨W0, hW0⟩ : ∃ W0, W0 = wr.alloc (.cells #[.slice xA xn xc, .slice xD xm xd] 53) := ⟨_, rfl⟩
            have b0 : Below wr.heap.size wr W0 := by rw [hW0]; exact Gw.alloc _ _
            have k0 : Bk W0 wr.heap.size 53 #[.slice xA xn xc, .slice xD xm xd] := by rw [hW0]; exact Bk.new _ _ _
            have z0 : W0.heap.size = wr.heap.size + 1 := by rw [hW0]; simp
            have hW0' := Lib.hid hW0
            rw [← hW0]
            clear hW0
            have B0 := Lib.hid b0
            have K0 := Lib.hid k0
            have Z0 := Lib.hid z0
            have Q0 := Lib.hid (HO.out.2.1.below b0 hsz)
            have hw0 : W0.cell? ⟨ob, 0, none⟩ = some (.slice VA m vc) ∧ W0.cell? ⟨wr.heap.size, 0, none⟩ = some (.slice xA xn xc) ∧ W0.cell? ⟨wr.heap.size, 1, none⟩ = some (.slice xD xm xd) := ⟨Q0.out.cell 0, k0.cell 0, k0.cell 1⟩
            clear b0 k0 z0
            refine region_by_spineU 13 [5, 8, 9, 10, 11, 12, 13] [(0, 61, .pointer (some ⟨ob, 0, none⟩)), (1, 62, .slice VA m vc), (2, 63, .pointer (some ⟨wr.heap.size, 0, none⟩)), (3, 64, .slice xA xn xc), (4, 65, .map (some mb)), (6, 67, .pointer (some ⟨wr.heap.size, 1, none⟩)), (7, 68, .slice xD xm xd)]
              (fun W => W.cell? ⟨ob, 0, none⟩ = some (.slice VA m vc) ∧ W.cell? ⟨wr.heap.size, 0, none⟩ = some (.slice xA xn xc) ∧ W.cell? ⟨wr.heap.size, 1, none⟩ = some (.slice xD xm xd)) (by kernel_rfl) (by kernel_rfl) (by kernel_rfl) (by kernel_rfl) (by kernel_rfl) (by kernel_rfl) (by kernel_rfl) hw0 ?_ ?_
            · intro y hy V ρ hV hρ hcst
              obtain ⟨k1, k2, k3⟩ := hV
              have e7 : ρ (.tmp 7) = .map (some mb) := (hρ 7).trans (by kernel_rfl)
              have e10 : ρ (.tmp 10) = .pointer (some ⟨ob, 0, none⟩) := (hρ 10).trans (by kernel_rfl)
              have e12 : ρ (.tmp 12) = .pointer (some ⟨wr.heap.size, 0, none⟩) := (hρ 12).trans (by kernel_rfl)
              have e61 : ρ (.tmp 61) = .pointer (some ⟨ob, 0, none⟩) := (hρ 61).trans (by kernel_rfl)
              have e63 : ρ (.tmp 63) = .pointer (some ⟨wr.heap.size, 0, none⟩) := (hρ 63).trans (by kernel_rfl)
              have e67 : ρ (.tmp 67) = .pointer (some ⟨wr.heap.size, 1, none⟩) := (hρ 67).trans (by kernel_rfl)
              clear hρ
              simp only [List.mem_cons, List.not_mem_nil, or_false] at hy
              rcases hy with rfl | rfl | rfl | rfl | rfl | rfl | rfl
              all_goals
                refine ⟨_, rfl, ?_⟩
                go_simp
                try rfl
            simp only [putA, putD, Act.put, List.setIfInBounds_toArray, List.set_cons_zero, List.set_cons_succ]
            refine spineU_list rfl rfl rfl ?_
            go_wp2_with fail
            refine Calls.mono (HC1.out _ (B0.out.trans ((Gw.drew W0).mono B0.out.size))) ?_
            rintro r2 V1 ⟨PA, pc, rfl, ho1, v1⟩
            have b1 : Below W0.heap.size W0 V1 := (Gw.drew W0).trans v1
            have B1 := Lib.hid b1
            have O1 := Lib.hid (show Ow iV 3 V1 W0.heap.size (.slice PA xn pc) (xps.map (newP (pairsB L 0 0))) from ho1)
            have K1 := Lib.hid (K0.out.below b1 K0.out.lt)
            have Q1 := Lib.hid (Q0.out.below b1 Q0.out.lt)
            have hw1 : V1.cell? ⟨ob, 0, none⟩ = some (.slice VA m vc) ∧ V1.cell? ⟨wr.heap.size, 0, none⟩ = some (.slice xA xn xc) ∧ V1.cell? ⟨wr.heap.size, 1, none⟩ = some (.slice xD xm xd) := ⟨Q1.out.cell 0, K1.out.cell 0, K1.out.cell 1⟩
            have HW1 := Lib.hid hw1
            clear b1 v1 ho1 hw1 hw0
            go_wp2_with fail
            refine ⟨rfl, (by first | exact HW1.out | exact fun _ => HW1.out), ?_⟩
            refine spineU_list rfl rfl rfl ?_
            go_wp2_with fail
            refine Calls.mono (HC2.out _ (B0.out.trans (B1.out.mono B0.out.size))) ?_
            rintro r3 V2 ⟨DA, dc, rfl, ho2, v2⟩
            have B2 := Lib.hid v2
            have O2 := Lib.hid ho2
            have K2 := Lib.hid (K1.out.below v2 K1.out.lt)
            have Q2 := Lib.hid (Q1.out.below v2 Q1.out.lt)
            have hw2 : V2.cell? ⟨ob, 0, none⟩ = some (.slice VA m vc) ∧ V2.cell? ⟨wr.heap.size, 0, none⟩ = some (.slice xA xn xc) ∧ V2.cell? ⟨wr.heap.size, 1, none⟩ = some (.slice xD xm xd) := ⟨Q2.out.cell 0, K2.out.cell 0, K2.out.cell 1⟩
            have HW2 := Lib.hid hw2
            clear v2 ho2 hw2
            go_wp2_with fail
            refine ⟨rfl, (by first | exact HW2.out | exact fun _ => HW2.out), ?_⟩
            refine spineU_list rfl rfl rfl ?_
            go_wp2_with fail
            refine ⟨rfl, (by first | exact HW2.out | exact fun _ => HW2.out), ?_⟩
            refine spineU_list rfl rfl rfl ?_
            go_wp2_with fail
            have b3 := Gw.alloc V2 (.cells #[.slice PA xn pc, .slice DA xm dc] 53)
            have E3 := Lib.hid (Bk.new V2 53 #[.slice PA xn pc, .slice DA xm dc])
            have B3 := Lib.hid b3
            have Q3 := Lib.hid (Q2.out.below b3 Q2.out.lt)
            have hw3 : (V2.alloc (.cells #[.slice PA xn pc, .slice DA xm dc] 53)).cell? ⟨ob, 0, none⟩ = some (.slice VA m vc) ∧ (V2.alloc (.cells #[.slice PA xn pc, .slice DA xm dc] 53)).cell? ⟨wr.heap.size, 0, none⟩ = some (.slice xA xn xc) ∧ (V2.alloc (.cells #[.slice PA xn pc, .slice DA xm dc] 53)).cell? ⟨wr.heap.size, 1, none⟩ = some (.slice xD xm xd) := ⟨Q3.out.cell 0, (K2.out.below b3 K2.out.lt).cell 0, (K2.out.below b3 K2.out.lt).cell 1⟩
            have HW3 := Lib.hid hw3
            clear b3 hw3
            refine ⟨rfl, (by first | exact HW3.out | exact fun _ => HW3.out), ?_⟩
            refine spineU_list rfl rfl rfl ?_
            obtain ⟨i0, hi, hz0, hz1, hz2⟩ := info_parts infoN
            have hb03 : Below wr.heap.size wr (V2.alloc (.cells #[.slice PA xn pc, .slice DA xm dc] 53)) := B0.out.trans ((B1.out.trans (B2.out.trans (B3.out.mono B2.out.size) |>.mono B1.out.size)).mono B0.out.size)
            have HB03 := Lib.hid hb03
            have ho3 := ownsRow_below HO.out.1.row hb03
            rw [HX.out.2.2] at ho3
            refine wp_appR 2 i0 Try.underlying22 hi hz0 hz1 hz2 (by rfl) (by decide) rfl (.tmp 62) (.tmp 71) rfl (ob + 1) _ m _ rfl ho3 ⟨V2.heap.size, 0, none⟩ 1 1 [.slice PA xn pc, .slice DA xm dc] rfl rfl (fun j u hu => ?_) (fun u hu => ?_) (by unfold maxLen; omega) (by omega) (by have := hb03.size; omega) ?_
            · have hj : j < 2 := by have := (List.getElem?_eq_some_iff.1 hu).1; simpa using this
              rw [addr_at, E3.out.cell]
              rcases (show j = 0 ∨ j = 1 by omega) with rfl | rfl
              · simpa using hu
              · simpa using hu
            · simp only [List.mem_cons, List.not_mem_nil, or_false] at hu
              rcases hu with rfl | rfl <;> rfl
            intro v5 w5 ho5 hb5 hg5 hv5
            obtain ⟨A5, c5, rfl⟩ := own_form ho5
            have hgq : ∀ c, (Value.slice VA m vc).ownBlock = some c → ob + 1 ≤ c ∧ c < wr.heap.size := fun c e => by
              obtain ⟨a, e1, e2⟩ := own_sl e
              rw [← e2]; exact HVA.out a e1
            have Q5 := Lib.hid ((hg5.block ob (Nat.lt_of_lt_of_le hsz hb03.size) (fun e => by have := (hgq ob e.symm).1; omega)).trans Q3.out)
            have K5 := Lib.hid ((hg5.block wr.heap.size (Nat.lt_of_lt_of_le (by have := Z0.out; have := B0.out.size; omega) (show W0.heap.size ≤ _ from by have := B1.out.size; have := B2.out.size; have := B3.out.size; omega)) (fun e => by have := (hgq _ e.symm).2; omega)).trans (K2.out.below B3.out K2.out.lt))
            have hw5 : w5.cell? ⟨ob, 0, none⟩ = some (.slice VA m vc) ∧ w5.cell? ⟨wr.heap.size, 0, none⟩ = some (.slice xA xn xc) ∧ w5.cell? ⟨wr.heap.size, 1, none⟩ = some (.slice xD xm xd) := ⟨Bk.cell Q5.out 0, Bk.cell K5.out 0, Bk.cell K5.out 1⟩
            have HW5 := Lib.hid hw5
            have hN5 : NOwn w5 (ob + 1) (.slice A5 (m + 1) c5) (xs ++ [⟨PA, pc, DA, dc, xps.map (newP (pairsB L 0 0)), xbs⟩]) := by
              have z1 := B1.out.size
              have z2 := B2.out.size
              have z0 := B0.out.size
              refine NOwn.snoc HO.out.1 hb03 ⟨?_, ?_⟩ ⟨fun c e => ?_, fun c e => ?_, fun c e => ?_⟩ ?_ hg5 hv5
              · have h := (O1.out.below (B2.out.trans (B3.out.mono B2.out.size))).mono (show ob + 1 ≤ W0.heap.size by omega)
                rw [show (⟨PA, pc, DA, dc, xps.map (newP (pairsB L 0 0)), xbs⟩ : Nv).vp = .slice PA xn pc from by show Value.slice PA (xps.map (newP (pairsB L 0 0))).length pc = _; rw [List.length_map, ← HX.out.1]]
                exact h
              · have h := (O2.out.below B3.out).mono (show ob + 1 ≤ V1.heap.size by omega)
                rw [show (⟨PA, pc, DA, dc, xps.map (newP (pairsB L 0 0)), xbs⟩ : Nv).vd = .slice DA xm dc from by rw [HX.out.2.1]; rfl]
                exact h
              · have h := O1.out
                rw [show (⟨PA, pc, DA, dc, xps.map (newP (pairsB L 0 0)), xbs⟩ : Nv).vp = .slice PA xn pc from by show Value.slice PA (xps.map (newP (pairsB L 0 0))).length pc = _; rw [List.length_map, ← HX.out.1]] at e
                have := (h.lt c e).1
                omega
              · have h := O2.out
                rw [HX.out.2.1] at h
                have := (h.lt c e).1
                omega
              · intro e2
                rw [show (⟨PA, pc, DA, dc, xps.map (newP (pairsB L 0 0)), xbs⟩ : Nv).vp = .slice PA xn pc from by show Value.slice PA (xps.map (newP (pairsB L 0 0))).length pc = _; rw [List.length_map, ← HX.out.1]] at e
                have h := O1.out
                have h2 := O2.out
                rw [HX.out.2.1] at h2
                have g1 := (h.lt c e).2
                have g2 := (h2.lt c e2).1
                omega
              · rw [HX.out.2.2]
                have h := ho5
                have ec : (⟨PA, pc, DA, dc, xps.map (newP (pairsB L 0 0)), xbs⟩ : Nv).cs = [.slice PA xn pc, .slice DA xm dc] := by
                  show [Value.slice PA (xps.map (newP (pairsB L 0 0))).length pc, Value.slice DA xbs.length dc] = _
                  rw [List.length_map, ← HX.out.1, ← HX.out.2.1]
                rw [ec]
                exact h
            have H5 := Lib.hid (And.intro hN5 (show Below ob W1 w5 from (HO.out.2.2.trans (hb03.mono (by omega))).trans ((Below.refl _ _).grown hg5 (by have := hb03.size; omega) (fun c e => by have := (hgq c e).1; omega))))
            have F5 := Lib.hid (Bk.free Q5.out 0)
            clear ho3 ho5 hb5 hg5 hv5 hgq hw5 hi hz0 hz1 hz2 hb03 hN5
            refine ⟨rfl, (by first | exact HW5.out | exact fun _ => HW5.out), ?_⟩
            refine spineU_list rfl rfl rfl ?_
            go_wp2_with fail
            refine ⟨rfl, (by first | exact HW5.out | exact fun _ => HW5.out), ?_⟩
            refine spineU_list rfl rfl rfl ?_
            have c52 := Bk.cell Q5.out 0
            have f52 := F5.out
            have Q6 := Lib.hid (Bk.set Q5.out 0 (.slice A5 (m + 1) c5))
            go_wp2_with fail
            refine ⟨rfl, trivial, ?_⟩
            unfold SpineU
            have hnq : ob ∉ (Value.slice A5 (m + 1) c5).ownBlock.toList ++ blksN (xs ++ [⟨PA, pc, DA, dc, xps.map (newP (pairsB L 0 0)), xbs⟩]) := fun h => by
              have := blks_ge H5.out.1 ob h
              omega
            have H6 := Lib.hid (And.intro (H5.out.1.grown (grown_set w5 ⟨ob, 0, none⟩ (.slice A5 (m + 1) c5)) hnq) (H5.out.2.trans ((Below.refl _ _).setCell (p := ⟨ob, 0, none⟩) (Nat.le_refl _) (.slice A5 (m + 1) c5))))
            clear c52 f52 hnq
            go_wp2_with fail
            go_roundw
            case rel =>
              have hX := HMM.out ⟨PA, pc, DA, dc, xps.map (newP (pairsB L 0 0)), xbs⟩ rfl (by first | rfl | trivial)
              have X : ∃ (k' m' : Nat) (VA' : Option Addr) (vc' : Nat) (xs' : List Nv), (Value.int .i64 ((k : Int) + 1)) = .int .i64 k' ∧ k' ≤ N ∧ Hid (xs'.map Nv.m = trimN (pairsB L 0 0) (ns.take k') (L.take k')) ∧ Hid (xs'.length = m' ∧ m' ≤ k') ∧ NOwn (w5.setCell ⟨ob, 0, none⟩ (.slice A5 (m + 1) c5)) (ob + 1) (.slice VA' m' vc') xs' ∧ Bk (w5.setCell ⟨ob, 0, none⟩ (.slice A5 (m + 1) c5)) ob 25 #[.slice VA' m' vc', .slice none 0 0] ∧ Below ob W1 (w5.setCell ⟨ob, 0, none⟩ (.slice A5 (m + 1) c5)) :=
                ⟨k + 1, m + 1, A5, c5, _, by go_num, by omega, Lib.hid hX.1, Lib.hid hX.2, H6.out.1, Q6.out, H6.out.2⟩
              first | exact X | exact ⟨_, _, _, _, _, _, _, _, _, _, _, _, _, _, _, _, _, _, _, _, _, _, _, _, _, _, X, rfl⟩
            case measure => simp [Go.RowKit.intOf]; omega
        · have hkN : k = N := by omega
          have hfin : xs.map Nv.m = trimN (pairsB L 0 0) ns L := by
            have := hm.out
            rwa [List.take_of_length_le (by rw [← HN.out.1]; omega), List.take_of_length_le (by rw [HL.out.1]; omega)] at this
          have HNod := Lib.hid (And.intro ho (And.intro hfin hmx.out))
          have HSr := Lib.hid hSr
          have HB2 := Lib.hid (And.intro hb1 hB)
          have g0 := hSr.gb.two.2
          clear hkN hfin ho hSr hB hm hmx hb1
          go_wp2_with fail
          obtain ⟨W2, hW2⟩ : ∃ W2, W2 = wr := ⟨_, rfl⟩
          rw [← hW2] at HNod HSr HB2 hsz ⊢
          clear hW2 g0
          have HM9 := Lib.hid hsz
          clear hlt
          go_loopw [78] (fun i W => ∃ (k : Nat) (RA : Option Addr) (rc : Nat) (ys : List Rv), i = .int .i64 k ∧ k ≤ M ∧ Hid (ys = (rs.take k).map (fun r => (⟨r.s, newP (pairsB L 0 0) r.t⟩ : Rv))) ∧ ROwn W W2.heap.size (.slice RA k rc) ys ∧ Bk W ob 25 #[.slice VA m vc, .slice RA k rc] ∧ Kept (fun b => b = ob) W2 W) (fun i _ => M - (Go.RowKit.intOf i).toNat)
          case atStart => exact ⟨0, none, 0, [], rfl, Nat.zero_le _, Lib.hid rfl, ROwn.nil _ _, HB2.out.1, Kept.refl _ _⟩
          case round =>
            obtain ⟨k, RA, rc, ys, rfl, hk, hys, hro, hb1, hK⟩ := hrel
            have hobs : ob < wr.heap.size := hb1.lt
            by_cases hlt : k < M
            · have hkl : k < rs.length := by rw [← HN.out.2]; exact hlt
              obtain ⟨x, hx⟩ : ∃ x, x = rs[k] := ⟨_, rfl⟩
              have hbw : Below w.heap.size w wr := HSr.out.bl.trans (hK.below HSr.out.bl.size (fun c e => by rw [e]; have h1 := HOb.out; have h2 := HS.out.bl.size; omega))
              obtain ⟨ad, rfl, hc2, hc3⟩ : ∃ ad, A2 = some ad ∧ wr.cell? (ad.add (k * 2)) = some (.string x.s) ∧ wr.cell? ⟨(ad.add (k * 2)).block, (ad.add (k * 2)).off + 1, none⟩ = some (.int .i64 x.t) := by
                obtain ⟨ad, e, _, h1, h2⟩ := (HG.out.r.below hbw) k hkl
                exact ⟨ad, e, by rw [hx]; exact h1, by rw [hx]; exact h2⟩
              have hwf := HW.out.2 x (by rw [hx]; exact List.getElem_mem _)
              have hmp : MapIs wr (some mb) (pairsB L 0 0) := HSr.out.mp.kept hK (fun b e e2 => by injection e with e; have h1 := HOb.out; have h2 := HS.out.mp.lt b (by rw [e]); omega)
              have hnx : ys ++ [⟨x.s, newP (pairsB L 0 0) x.t⟩] = (rs.take (k + 1)).map (fun r => (⟨r.s, newP (pairsB L 0 0) r.t⟩ : Rv)) := by
                rw [take_snoc rs k hkl, List.map_append, ← hys.out, ← hx]; rfl
              have hyl : ys.length = k := by rw [hys.out, List.length_map, List.length_take]; omega
              obtain ⟨rs', rt⟩ := x
              simp only at hc2 hc3 hwf hnx
              have hlk := (map_below hmp (Gw.alloc wr (.cells #[.string rs', .int .i64 rt] 58))).look hwf
              obtain ⟨z, hz⟩ : ∃ z, z = (lookI (pairsB L 0 0) rt).getD 0 := ⟨_, rfl⟩
              rw [← hz] at hlk
              have HNx := Lib.hid (show ys ++ [⟨rs', z⟩] = (rs.take (k + 1)).map (fun r => (⟨r.s, newP (pairsB L 0 0) r.t⟩ : Rv)) ∧ ys.length = k from ⟨by rw [← hnx, hz]; rfl, hyl⟩)
              have p1 : (0 : Int) ≤ (k : Int) := by omega
              have p2 : (k : Int) < (M : Int) := by omega
              have e1 := hb1.two.2
              have e1f := hb1.free 1
              have HB3 := Lib.hid (And.intro hb1 (And.intro hro hK))
              have hcl := cell_lt hc2
              have hcl' : (ad.add (k * 2)).block < wr.heap.size := hcl
              clear hx hwf hmp hnx hyl hys hro hK hb1 hz hbw hkl hcl
              obtain ⟨i0, hi, hz0, hz1, hz2⟩ := info_parts infoR
              have HI := Lib.hid (And.intro hi (And.intro hz0 (And.intro hz1 hz2)))
              have b5 : Below wr.heap.size wr ((wr.alloc (.cells #[.string rs', .int .i64 z] 58)).alloc (.cells #[.string rs', .int .i64 z] 58)) := (Gw.alloc wr _).trans ((Gw.alloc _ _).mono (by simp))
              have n5 : Bk ((wr.alloc (.cells #[.string rs', .int .i64 z] 58)).alloc (.cells #[.string rs', .int .i64 z] 58)) (wr.heap.size + 1) 58 #[.string rs', .int .i64 z] := by
                have := Bk.new (wr.alloc (.cells #[.string rs', .int .i64 z] 58)) 58 #[.string rs', .int .i64 z]
                simpa using this
              have HB5 := Lib.hid b5
              have hrow := ownsRow_below HB3.out.2.1 b5
              rw [HNx.out.2] at hrow
              have hnew : ∀ (j : Nat) (u : Value), [Value.string rs', .int .i64 z][j]? = some u → ((wr.alloc (.cells #[.string rs', .int .i64 z] 58)).alloc (.cells #[.string rs', .int .i64 z] 58)).cell? ((⟨wr.heap.size + 1, 0, none⟩ : Addr).add j) = some u := fun j u hu => by
                have hj : j < 2 := by have := (List.getElem?_eq_some_iff.1 hu).1; simpa using this
                rw [addr_at, n5.cell]
                rcases (show j = 0 ∨ j = 1 by omega) with rfl | rfl
                · simpa using hu
                · simpa using hu
              have hone : ∀ u ∈ [Value.string rs', .int .i64 z], u.oneCell' = true := fun u hu => by
                simp only [List.mem_cons, List.not_mem_nil, or_false] at hu
                rcases hu with rfl | rfl <;> rfl
              have HRow := Lib.hid (And.intro hrow (And.intro hnew hone))
              have hwsz : W2.heap.size ≤ wr.heap.size := HB3.out.2.2.size
              have HWz := Lib.hid (show W2.heap.size ≤ ((wr.alloc (.cells #[.string rs', .int .i64 z] 58)).alloc (.cells #[.string rs', .int .i64 z] 58)).heap.size from Nat.le_trans hwsz b5.size)
              clear hi hz0 hz1 hz2 b5 n5 hrow hnew hone hwsz
              go_wp2_with (at_builtin; refine wp_appR 2 i0 Try.underlying23 HI.out.1 HI.out.2.1 HI.out.2.2.1 HI.out.2.2.2 (by rfl) (by decide) rfl (.tmp 88) (.tmp 90) rfl W2.heap.size _ k _ rfl HRow.out.1 ⟨wr.heap.size + 1, 0, none⟩ 1 1 [.string rs', .int .i64 z] rfl rfl HRow.out.2.1 HRow.out.2.2 (by unfold maxLen; omega) (by omega) HWz.out ?_; intro v5 w5 ho5 hb5 hg5 hv5; obtain ⟨A5, c5, rfl⟩ := own_form ho5; have hQ5 := (HB3.out.1.below HB5.out hobs).below hb5 HM9.out; have q50 := hQ5.two.2; have q5f := hQ5.free 1; have H5 := Lib.hid (And.intro ho5 (And.intro hb5 hQ5)); clear ho5 hb5 hg5 hv5 hQ5)
              have X : ∃ (k' : Nat) (RA' : Option Addr) (rc' : Nat) (ys' : List Rv), (Value.int .i64 ((k : Int) + 1)) = .int .i64 k' ∧ k' ≤ M ∧ Hid (ys' = (rs.take k').map (fun r => (⟨r.s, newP (pairsB L 0 0) r.t⟩ : Rv))) ∧ ROwn (w5.setCell ⟨ob, 1, none⟩ (.slice A5 (k + 1) c5)) W2.heap.size (.slice RA' k' rc') ys' ∧ Bk (w5.setCell ⟨ob, 1, none⟩ (.slice A5 (k + 1) c5)) ob 25 #[.slice VA m vc, .slice RA' k' rc'] ∧ Kept (fun b => b = ob) W2 (w5.setCell ⟨ob, 1, none⟩ (.slice A5 (k + 1) c5)) := by
                obtain ⟨h1, h2, h3⟩ := H5.out
                refine ⟨k + 1, A5, c5, ys ++ [⟨rs', z⟩], by go_num, by omega, Lib.hid HNx.out.1, ?_, h3.set 1 _, ((HB3.out.2.2.trans (Kept.of_below HB5.out _)).bel h2).trans (Kept.set w5 ob 1 _)⟩
                have h4 : ROwn w5 W2.heap.size (.slice A5 (k + 1) c5) (ys ++ [⟨rs', z⟩]) := by
                  unfold ROwn
                  rw [List.length_append, HNx.out.2, List.flatMap_append]
                  exact h1
                refine World.ownsRow.kept h4 (grown_set w5 ⟨ob, 1, none⟩ _) ?_
                cases e : (Value.slice A5 (k + 1) c5).ownBlock with
                | none => exact .inl rfl
                | some c => exact .inr (fun e2 => by injection e2 with e2; have e3 : c = ob := e2; have h5 := (World.ownsRow.lt h4 c e).1; have := HM9.out; omega)
              clear q50 q5f H5 HRow HB3
              go_roundw
              case rel => first | exact X | exact ⟨_, _, _, _, _, _, _, _, _, _, _, _, _, _, _, _, _, X, rfl⟩
              case measure => simp [Go.RowKit.intOf]; omega
            · have hkM : k = M := by omega
              have hyf : ys = rs.map (fun r => (⟨r.s, newP (pairsB L 0 0) r.t⟩ : Rv)) := by
                rw [hys.out, List.take_of_length_le (by rw [← HN.out.2]; omega)]
              have hyl : ys.length = k := by rw [hyf, List.length_map, ← HN.out.2, hkM]
              have hbw : Below w.heap.size w wr := HSr.out.bl.trans (hK.below HSr.out.bl.size (fun c e => by rw [e]; have h1 := HOb.out; have h2 := HS.out.bl.size; omega))
              have h1 := HOb.out
              have h2 := HS.out.bl.size
              have h3 := HS.out.rb.lt
              have hrb : Bk wr (w.heap.size + 1) 25 #[.slice none 0 0, .slice none 0 0] := hK.bk HSr.out.rb (fun e => by omega)
              have hto : Ow iV 3 wr (w.heap.size + 2) (.slice (some ⟨q, 0, none⟩) N N) (toB L 0) := hK.ow HSr.out.to (fun c e e2 => by injection e with e; have e3 : q = c := e; have h4 := HS.out.to.ge.2; omega)
              have hno : NOwn wr (ob + 1) (.slice VA m vc) xs := HNod.out.1.grown hK.gr (fun h => by have := blks_ge HNod.out.1 _ h; omega)
              have d0 := hrb.two.1
              have d1 := hrb.two.2
              have d2 := hrb.free 0
              have d3 := hrb.free 1
              have e0 := hb1.two.1
              have e1 := hb1.two.2
              have HF := Lib.hid (And.intro hno (And.intro hro (And.intro hto (And.intro hbw (And.intro hyf (And.intro hyl (And.intro h1 (And.intro h2 (And.intro h3 hrb)))))))))
              clear hno hro hto hbw hyf hyl h1 h2 h3 hrb hK hb1 hys hkM
              go_wp2_with fail
              obtain ⟨o1, o2, o3, o4, o5, o6, o7, o8, o9, o10⟩ := HF.out
              have hbz : Bk ((wr.setCell ⟨w.heap.size + 1, 0, none⟩ (.slice VA m vc)).setCell ⟨w.heap.size + 1, 1, none⟩ (.slice RA k rc)) (w.heap.size + 1) 25 #[.slice VA m vc, .slice RA k rc] := by
                have h := (o10.set 0 (.slice VA m vc)).set 1 (.slice RA k rc)
                simpa using h
              refine bodyPost_ret (v := .tuple #[.agg #[.slice VA m vc, .slice RA k rc], .slice (some ⟨q, 0, none⟩) N N]) (trim_res hbz rfl rfl) rfl ?_
              have hg0 : ∀ W : World, ∀ i u, W.grownBy (W.setCell ⟨w.heap.size + 1, i, none⟩ u) (some (w.heap.size + 1)) := fun W i u => grown_set W ⟨w.heap.size + 1, i, none⟩ u
              have hnin : w.heap.size + 1 ∉ (Value.slice VA m vc).ownBlock.toList ++ blksN xs := fun h => by
                have := blks_ge o1 _ h
                omega
              have r2 : (Value.slice RA k rc).ownBlock = none ∨ (Value.slice RA k rc).ownBlock ≠ some (w.heap.size + 1) := by
                cases e : (Value.slice RA k rc).ownBlock with
                | none => exact .inl rfl
                | some c => exact .inr (fun e2 => by injection e2 with e2; have h1 := (World.ownsRow.lt o2 c e).1; have h2 := HM9.out; omega)
              have r3 : (Value.slice (some ⟨q, 0, none⟩) N N).ownBlock = none ∨ (Value.slice (some ⟨q, 0, none⟩) N N).ownBlock ≠ some (w.heap.size + 1) := .inr (fun e => by injection e with e; have e3 : q = w.heap.size + 1 := e; have := HS.out.ord; omega)
              have h9 := HM9.out
              refine ⟨L, ⟨VA, vc, RA, rc, xs, ys⟩, q, ?_, ?_, ?_, ((o3.kept (hg0 _ _ _) r3).kept (hg0 _ _ _) r3).mono (by omega), HNod.out.2.1, o5, HL.out.1, HL.out.2, ?_⟩
              · show _ = Ending.returned (Value.tuple #[Value.agg #[.slice VA xs.length vc, .slice RA ys.length rc], _])
                rw [HNod.out.2.2.1, o6]
              · show NOwn _ _ (.slice VA xs.length vc) xs
                rw [HNod.out.2.2.1]
                exact ((o1.grown (hg0 _ _ _) hnin).grown (hg0 _ _ _) hnin).mono (by omega)
              · show ROwn _ _ (.slice RA ys.length rc) ys
                rw [o6]
                exact ROwn.mono (World.ownsRow.kept (World.ownsRow.kept o2 (hg0 _ _ _) r2) (hg0 _ _ _) r2) (by omega)
              · exact ((o4.setCell (p := ⟨w.heap.size + 1, 0, none⟩) (by show w.heap.size ≤ w.heap.size + 1; omega) _).setCell (p := ⟨w.heap.size + 1, 1, none⟩) (by show w.heap.size ≤ w.heap.size + 1; omega) _)
end Go.Proofs.Ytidaimcndbhefaa
