/- Texts joined: CaU TxT. -/
import Derived.Test.YtdppnggchpchgaaDoorCe9
/- A graph renumbered, with nodes more that nobody reaches (pure). No conditions. -/
namespace Go.Proofs.YtdppnggchpchgaaDoor
set_option linter.unusedVariables false
set_option linter.unusedSimpArgs false
open Go.RowKit Go.Maps
theorem can_pick {g t : Gv} {od : List Int} (hpk : Pk g.n od t.n) (root : ∀ r ∈ g.r, r.t = 0 ∨ r.t ∈ od) (hr : t.r = g.r.map (fun r => (⟨r.s, newO od r.t⟩ : Rv))) : canM t = canM g ∧ canR t = canR g := by
  have hmt : t.r.map (·.t) = (g.r.map (·.t)).map (newO od) := by rw [hr, List.map_map, List.map_map]; rfl
  obtain ⟨w1, w2⟩ := hpk.walk (fr := g.r.map (·.t)) (fun p hp => by
    obtain ⟨r, h, rfl⟩ := List.mem_map.1 hp
    exact root r h)
  obtain ⟨a1, a2⟩ := hpk.again w2
  refine ⟨?_, ?_⟩
  · unfold canM
    rw [hmt, w1]; exact a2
  · unfold canR
    rw [hmt, w1, hr, List.map_map]
    exact List.map_congr_left fun r h => by
      show (⟨r.s, newO _ (newO od r.t)⟩ : Rv) = _
      rw [a1 r.t (root r h)]
theorem idL_mem {n : Nat} {p : Int} : p ∈ idL n ↔ hasG n p = true := by
  rw [hasG_iff]
  unfold idL
  constructor
  · intro h
    obtain ⟨i, hi, e⟩ := List.mem_map.1 h
    have := List.mem_range.1 hi
    omega
  · intro h
    exact List.mem_map.2 ⟨(p - 1).toNat, List.mem_range.2 (by omega), by omega⟩
/-- All nodes, in any order. -/
theorem perm_pk {g : Gv} {xs : List Nv} {pick : List Int} (h0 : ckG g = 0) (hp : pick.Perm (idL g.n.length)) (hm : xs.map Nv.m = pickN g.n pick pick) : Pk g.n pick xs ∧ ∀ r ∈ g.r, r.t = 0 ∨ r.t ∈ pick := by
  obtain ⟨hok, hrt⟩ := ck_ok h0
  have hin : ∀ q, okP g.n.length q = true → q = 0 ∨ q ∈ pick := fun q h => by
    have h5 := okP_iff.1 h
    by_cases e : q = 0
    · exact .inl e
    · exact .inr (hp.mem_iff.2 (idL_mem.2 (hasG_iff.2 (by omega))))
  refine ⟨⟨fun p h => idL_mem.1 (hp.mem_iff.1 h), hp.nodup_iff.2 (idL_nd _), fun p h q hq => ?_, hm⟩, fun r hr => hin _ (hrt r hr)⟩
  unfold ptrsG at hq
  cases e : g.n[(p - 1).toNat]? with
  | none => rw [e] at hq; cases hq
  | some x => rw [e] at hq; exact hin q (hok x (List.mem_of_getElem? e) q hq)
/-- Nodes more behind. -/
theorem more_pk {xs ex : List Nv} (hok : ∀ x ∈ xs, ∀ p ∈ x.ps, okP xs.length p = true) : Pk (xs ++ ex) (idL xs.length) xs := by
  refine ⟨fun p h => ?_, idL_nd _, fun p h q hq => ?_, ?_⟩
  · have := hasG_iff.1 (idL_mem.1 h)
    rw [hasG_iff, List.length_append]; omega
  · have h2 := hasG_iff.1 (idL_mem.1 h)
    unfold ptrsG at hq
    rw [List.getElem?_append_left (by omega)] at hq
    cases e : xs[(p - 1).toNat]? with
    | none => rw [e] at hq; cases hq
    | some x =>
      rw [e] at hq
      have h5 := okP_iff.1 (hok x (List.mem_of_getElem? e) q hq)
      by_cases e0 : q = 0
      · exact .inl e0
      · exact .inr (idL_mem.2 (hasG_iff.2 (by omega)))
  · refine List.ext_getElem? fun i => ?_
    unfold pickN
    rw [List.getElem?_map, List.getElem?_map]
    by_cases hi : i < xs.length
    · have hi2 : i < (xs ++ ex).length := by rw [List.length_append]; omega
      have e2 : (xs ++ ex)[i] = xs[i] := List.getElem_append_left hi
      rw [idL_get hi, List.getElem?_eq_getElem hi, Option.map_some, Option.map_some, pick1_at hi2, e2]
      unfold Nv.m
      have : (xs[i]).ps.map (newO (idL xs.length)) = (xs[i]).ps.map id := List.map_congr_left fun p hp => idL_new (hok _ (List.getElem_mem hi) p hp)
      rw [this, List.map_id]
    · rw [List.getElem?_eq_none (by omega), List.getElem?_eq_none (by rw [idL_len]; omega)]; rfl
theorem turned_pure {g y : Gv} {xs ex : List Nv} {xr : List Rv} {pick : List Int} (h0 : ckG g = 0) (hp : pick.Perm (idL g.n.length)) (hm : xs.map Nv.m = pickN g.n pick pick) (hr : xr = g.r.map (fun r => (⟨r.s, newO pick r.t⟩ : Rv))) (hyn : y.n = xs ++ ex) (hyr : y.r = xr) : canM y = canM g ∧ canR y = canR g := by
  obtain ⟨pk1, rt1⟩ := perm_pk h0 hp hm
  obtain ⟨a1, a2⟩ := can_pick (g := g) (t := ⟨none, 0, none, 0, xs, xr⟩) pk1 rt1 hr
  have hxl : xs.length = g.n.length := by rw [pk1.len, hp.length_eq, idL_len]
  have hokx : ∀ x ∈ xs, ∀ p ∈ x.ps, okP xs.length p = true := pk1.okn
  have hrx : ∀ r ∈ xr, okP xs.length r.t = true := fun r h => by
    rw [hr] at h
    obtain ⟨s, hs, rfl⟩ := List.mem_map.1 h
    exact pk1.okp (rt1 s hs)
  have pk2 := more_pk (ex := ex) hokx
  obtain ⟨b1, b2⟩ := can_pick (g := y) (t := ⟨none, 0, none, 0, xs, xr⟩) (od := idL xs.length) (by rw [hyn]; exact pk2) (fun r h => by
    rw [hyr] at h
    have h5 := okP_iff.1 (hrx r h)
    by_cases e : r.t = 0
    · exact .inl e
    · exact .inr (idL_mem.2 (hasG_iff.2 (by omega)))) (by
    rw [hyr]
    show xr = xr.map (fun r => (⟨r.s, newO (idL xs.length) r.t⟩ : Rv))
    have : xr.map (fun r => (⟨r.s, newO (idL xs.length) r.t⟩ : Rv)) = xr.map id := List.map_congr_left fun r hr' => by rw [idL_new (hrx r hr')]; rfl
    rw [this, List.map_id])
  exact ⟨b1.symm.trans a1, b2.symm.trans a2⟩
theorem idL_snoc (n : Nat) : idL (n + 1) = idL n ++ [(n : Int) + 1] := by
  unfold idL
  rw [List.range_succ, List.map_append]; rfl
theorem perm_step {pick a b : List Int} {v : Int} {X : List Int} (h : (pick ++ (a ++ v :: b)).Perm X) : ((pick ++ [v]) ++ (a ++ b)).Perm X := by
  refine List.Perm.trans ?_ h
  rw [List.append_assoc]
  exact List.Perm.append_left pick (by simpa using (List.perm_middle (l₁ := a) (l₂ := b) (a := v)).symm)
theorem drop_split {l : List Int} {k : Nat} (h : k < l.length) : l = l.take k ++ l[k] :: l.drop (k + 1) := by
  rw [List.getElem_cons_drop, List.take_append_drop]
/-- The nodes more. -/
def exN (n : Nat) (i : Nat) : List Int × List (BitVec 8) := ([1 + ((i % (n + 1) : Nat) : Int)], [])
theorem can_okY {g y : Gv} {xs ex : List Nv} {xr : List Rv} {pick : List Int} (h0 : ckG g = 0) (hf : FewP g) (hp : pick.Perm (idL g.n.length)) (hm : xs.map Nv.m = pickN g.n pick pick) (hr : xr = g.r.map (fun r => (⟨r.s, newO pick r.t⟩ : Rv))) (hyn : y.n = xs ++ ex) (hyr : y.r = xr) (he : ex.length ≤ 10) (hex : ∀ x ∈ ex, x.bs = [] ∧ x.ps.length ≤ 1 ∧ ∀ p ∈ x.ps, 0 ≤ p ∧ p ≤ 1000) : CanOk y := by
  obtain ⟨pk1, rt1⟩ := perm_pk h0 hp hm
  have hxl : xs.length = g.n.length := by rw [pk1.len, hp.length_eq, idL_len]
  have h60 := hf.1
  have hxx : ∀ x ∈ xs, x.ps.length ≤ 70 ∧ x.bs.length ≤ 1100 ∧ ∀ p ∈ x.ps, 0 ≤ p ∧ p ≤ 1000 := fun x hx => by
    obtain ⟨p, z, hp', hz, e1, e2⟩ := pk1.each hx
    have h3 := hf.2.2.1 z (List.mem_of_getElem? hz)
    refine ⟨by rw [e1, List.length_map]; exact h3.1, by rw [e2]; exact h3.2, fun q hq => ?_⟩
    have := okP_iff.1 (pk1.okn x hx q hq)
    omega
  have hall : ∀ x ∈ y.n, x.ps.length ≤ 70 ∧ x.bs.length ≤ 1100 ∧ ∀ p ∈ x.ps, 0 ≤ p ∧ p ≤ 1000 := fun x hx => by
    rw [hyn] at hx
    rcases List.mem_append.1 hx with hx | hx
    · exact hxx x hx
    · obtain ⟨a, b, c⟩ := hex x hx
      exact ⟨by omega, by rw [a]; simp, c⟩
  have hrl : y.r.length ≤ 80 := by rw [hyr, hr, List.length_map]; exact hf.2.1
  refine ⟨⟨by rw [hyn, List.length_append]; omega, by omega, fun x hx => by have := hall x hx; omega⟩, by omega, fun x hx p hp => ?_, fun r hr' => ?_⟩
  · have := (hall x hx).2.2 p hp
    exact wfI (by omega) (by omega)
  · rw [hyr, hr] at hr'
    obtain ⟨s, hs, rfl⟩ := List.mem_map.1 hr'
    have := okP_iff.1 (pk1.okp (rt1 s hs))
    exact wfI (by show -9223372036854775808 ≤ newO pick s.t; omega) (by show newO pick s.t ≤ 9223372036854775807; omega)
end Go.Proofs.YtdppnggchpchgaaDoor
/- The law's To: the same graph in the program's types (as GtB's Of). Conditions: lengths. -/
namespace Go.Proofs.YtdppnggchpchgaaDoor
set_option linter.unusedVariables false
set_option linter.unusedSimpArgs false
open Go.RowKit Go.Maps
theorem to_res {tmps : Array Value} {W : World} {g : Nat} {a b : Value} (hb : Bk W g 25 #[a, b]) (h2 : tmps.getD 2 undef = .pointer (some ⟨g, 0, none⟩)) :
    (results Tryd.f23 tmps).run Tryd.prog W = .ok (.agg #[a, b]) W := by
  have hl := run_loadVar_row (P := Tryd.prog) W g 25 25 #[a, b] (0, 0) _ hb Tryd.underlying25 rfl (by kernel_rfl)
  have h2' : tmps[2]?.getD undef = .pointer (some ⟨g, 0, none⟩) := by simpa using h2
  simp [results, Tryd.results23, h2', asAddr, hl]
/-- What Of works on. -/
structure ToS (w W1 W : World) (q f k : Nat) (E : TypeId) (VA : Option Addr) (vc : Nat) (vals : List Value) (cs : Array Value) : Prop where
  row : W.ownsRow W1.heap.size E 2 (.slice VA k vc) k vals
  bk : Bk W q 25 cs
  kp : Kept (fun b => b = q) W1 W
  lt : q < W1.heap.size
set_option maxHeartbeats 4000000
set_option maxRecDepth 100000
theorem to_c (w : World) (g : Gv) (hg : g.At w w.heap.size) (hs : g.Small) : Calls Tryd.prog 23 #[g.v] w fun e w' => ∃ g' : Gv, e = .returned g'.v ∧ g'.At w' w'.heap.size ∧ g'.n = g.n ∧ g'.r = g.r ∧ Below w.heap.size w w' := by
  have HG := Lib.hid hg
  obtain ⟨A, ca, A2, ca2, ns, rs⟩ := g
  obtain ⟨N, hN⟩ : ∃ N, N = ns.length := ⟨_, rfl⟩
  obtain ⟨M, hM⟩ : ∃ M, M = rs.length := ⟨_, rfl⟩
  have HN := Lib.hid (And.intro hN hM)
  have q0 : (N : Int) ≤ 1000000 := by rw [hN]; exact Int.ofNat_le.2 hs.1
  have q1 : (M : Int) ≤ 1000000 := by rw [hM]; exact Int.ofNat_le.2 hs.2.1
  unfold Gv.v Gv.vn Gv.vr
  simp only
  rw [← hN, ← hM]
  clear hg hs hN hM
  go_enter Tryd.func23, Tryd.ntmps23
  go_wp2_with fail
  obtain ⟨q, hq⟩ : ∃ q, q = w.heap.size + 1 + 1 := ⟨_, rfl⟩
  obtain ⟨W1, hW1⟩ : ∃ W1, W1 = ((w.alloc (.cells #[.slice A N ca, .slice A2 M ca2] 32)).alloc (.cells #[.slice none 0 0, .slice none 0 0] 25)).alloc (.cells #[.slice none 0 0, .slice none 0 0] 25) := ⟨_, rfl⟩
  have HW1 := Lib.hid (show Bk W1 w.heap.size 32 #[.slice A N ca, .slice A2 M ca2] ∧ Bk W1 (w.heap.size + 1) 25 #[.slice none 0 0, .slice none 0 0] ∧ Below w.heap.size w W1 ∧ q = w.heap.size + 2 from by
    rw [hW1]
    have k1 := Bk.new (w.alloc (.cells #[.slice A N ca, .slice A2 M ca2] 32)) 25 #[.slice none 0 0, .slice none 0 0]
    simp only [World.size_alloc] at k1
    exact ⟨((Bk.new w _ _).alloc _).alloc _, k1.alloc _, (Gw.alloc w _).trans (((Gw.alloc _ _).trans ((Gw.alloc _ _).mono (by simp))).mono (by simp)), hq⟩)
  have HX1 := Lib.hid (show Bk W1 q 25 #[.slice none 0 0, .slice none 0 0] from by
    have k1 := Bk.new ((w.alloc (.cells #[.slice A N ca, .slice A2 M ca2] 32)).alloc (.cells #[.slice none 0 0, .slice none 0 0] 25)) 25 #[.slice none 0 0, .slice none 0 0]
    simp only [World.size_alloc] at k1
    rw [hW1, hq]; exact k1)
  rw [← hq, ← hW1]
  clear hq hW1
  go_loopw [4] (fun i W => ∃ (k : Nat) (VA : Option Addr) (vc : Nat), i = .int .i64 k ∧ k ≤ N ∧ ToS w W1 W q 0 k 52 VA vc ((ns.take k).flatMap Nv.cs) #[.slice VA k vc, .slice none 0 0]) (fun i _ => N - (Go.RowKit.intOf i).toNat)
  case atStart => exact ⟨0, none, 0, rfl, Nat.zero_le _, ⟨by simp, .inl ⟨rfl, rfl⟩⟩, HX1.out, Kept.refl _ _, HX1.out.lt⟩
  case round =>
    obtain ⟨k, VA, vc, rfl, hk, hS⟩ := hrel
    have HS := Lib.hid hS
    clear hS
    by_cases hlt : k < N
    · have hkl : k < ns.length := by rw [← HN.out.1]; exact hlt
      obtain ⟨x, hx⟩ : ∃ x, x = ns[k] := ⟨_, rfl⟩
      obtain ⟨ad, rfl, had, hc2, hc3⟩ : ∃ ad, A = some ad ∧ ad.block < w.heap.size ∧ w.cell? (ad.add (k * 2)) = some x.vp ∧ w.cell? ⟨(ad.add (k * 2)).block, (ad.add (k * 2)).off + 1, none⟩ = some x.vd := by
        obtain ⟨ad, e, e2, h1, h2, h3⟩ := HG.out.n k hkl
        exact ⟨ad, e, e2, by rw [hx]; exact h1, by rw [hx]; exact h2⟩
      have HT := Lib.hid (show (ns.take (k + 1)).flatMap Nv.cs = (ns.take k).flatMap Nv.cs ++ [x.vp, x.vd] from by rw [take_snoc ns k hkl, List.flatMap_append, ← hx]; simp [Nv.cs])
      obtain ⟨xA, xc, xD, xd, xps, xbs⟩ := x
      obtain ⟨xn, hxn⟩ : ∃ n, n = xps.length := ⟨_, rfl⟩
      obtain ⟨xm, hxm⟩ : ∃ n, n = xbs.length := ⟨_, rfl⟩
      unfold Nv.vp at hc2
      unfold Nv.vd at hc3
      unfold Nv.vp Nv.vd at HT
      simp only at hc2 hc3 HT
      rw [← hxn] at hc2 HT
      rw [← hxm] at hc3 HT
      clear hxn hxm hx hkl
      have HCK := Lib.hid (fun (W : World) (hK : Kept (fun b => b = q) W1 W) => show W.cell? ⟨w.heap.size, 0, none⟩ = some (.slice (some ad) N ca) ∧ W.cell? (ad.add (k * 2)) = some (.slice xA xn xc) ∧ W.cell? ⟨(ad.add (k * 2)).block, (ad.add (k * 2)).off + 1, none⟩ = some (.slice xD xm xd) from by
        have hb := hK.bk HW1.out.1 (show ¬ (w.heap.size = q) from by have := HW1.out.2.2.2; omega)
        have hw : Below w.heap.size w W := HW1.out.2.2.1.trans (hK.below HW1.out.2.2.1.size (fun c e => by rw [e]; have := HW1.out.2.2.2; omega))
        exact ⟨hb.cell 0, (hw.cell (cell_lt hc2)).trans hc2, (hw.cell (cell_lt hc3)).trans hc3⟩)
      have p1 : (0 : Int) ≤ (k : Int) := by omega
      have p2 : (k : Int) < (N : Int) := by omega
      have hw0 : wr.drew.cell? ⟨q, 0, none⟩ = some (.slice VA k vc) ∧ wr.drew.cell? ⟨w.heap.size, 0, none⟩ = some (.slice (some ad) N ca) ∧ wr.drew.cell? (ad.add (k * 2)) = some (.slice xA xn xc) ∧ wr.drew.cell? ⟨(ad.add (k * 2)).block, (ad.add (k * 2)).off + 1, none⟩ = some (.slice xD xm xd) := ⟨(HS.out.bk.below (Gw.drew wr) HS.out.bk.lt).cell 0, HCK.out _ (HS.out.kp.trans (Kept.of_below (Gw.drew wr) _))⟩
      have hg0 := (HCK.out _ HS.out.kp).1
      clear hc2 hc3 had
      go_wp2_with fail
      clear hg0
      refine region_by_spineU 18 [15, 16, 18] [(0, 14, .pointer (some ⟨q, 0, none⟩)), (1, 15, .slice VA k vc), (2, 16, .pointer (some ⟨w.heap.size, 0, none⟩)), (3, 17, .slice (some ad) N ca), (4, 18, .int .i64 k), (5, 19, .pointer (some (ad.add (k * 2)))), (6, 20, .pointer (some (ad.add (k * 2)))), (7, 21, .slice xA xn xc), (8, 22, .pointer (some ⟨w.heap.size, 0, none⟩)), (9, 23, .slice (some ad) N ca), (10, 24, .int .i64 k), (11, 25, .pointer (some (ad.add (k * 2)))), (12, 26, .pointer (some ⟨(ad.add (k * 2)).block, (ad.add (k * 2)).off + 1, none⟩)), (13, 27, .slice xD xm xd), (14, 28, .agg #[.slice xA xn xc, .slice xD xm xd]), (17, 31, .pointer (some ⟨q, 0, none⟩))]
        (fun W => W.cell? ⟨q, 0, none⟩ = some (.slice VA k vc) ∧ W.cell? ⟨w.heap.size, 0, none⟩ = some (.slice (some ad) N ca) ∧ W.cell? (ad.add (k * 2)) = some (.slice xA xn xc) ∧ W.cell? ⟨(ad.add (k * 2)).block, (ad.add (k * 2)).off + 1, none⟩ = some (.slice xD xm xd)) (by kernel_rfl) (by kernel_rfl) (by kernel_rfl) (by kernel_rfl) (by kernel_rfl) (by kernel_rfl) (by kernel_rfl) hw0 ?_ ?_
      · intro y hy V ρ hV hρ hcst
        obtain ⟨k1, k2, k3, k4⟩ := hV
        have e1 : ρ (.tmp 1) = .pointer (some ⟨w.heap.size, 0, none⟩) := (hρ 1).trans (by kernel_rfl)
        have e3 : ρ (.tmp 3) = .pointer (some ⟨q, 0, none⟩) := (hρ 3).trans (by kernel_rfl)
        have e4 : ρ (.tmp 4) = .int .i64 k := (hρ 4).trans (by kernel_rfl)
        have e14 : ρ (.tmp 14) = .pointer (some ⟨q, 0, none⟩) := (hρ 14).trans (by kernel_rfl)
        have e15 : ρ (.tmp 15) = .slice VA k vc := (hρ 15).trans (by kernel_rfl)
        have e16 : ρ (.tmp 16) = .pointer (some ⟨w.heap.size, 0, none⟩) := (hρ 16).trans (by kernel_rfl)
        have e17 : ρ (.tmp 17) = .slice (some ad) N ca := (hρ 17).trans (by kernel_rfl)
        have e18 : ρ (.tmp 18) = .int .i64 k := (hρ 18).trans (by kernel_rfl)
        have e19 : ρ (.tmp 19) = .pointer (some (ad.add (k * 2))) := (hρ 19).trans (by kernel_rfl)
        have e20 : ρ (.tmp 20) = .pointer (some (ad.add (k * 2))) := (hρ 20).trans (by kernel_rfl)
        have e21 : ρ (.tmp 21) = .slice xA xn xc := (hρ 21).trans (by kernel_rfl)
        have e22 : ρ (.tmp 22) = .pointer (some ⟨w.heap.size, 0, none⟩) := (hρ 22).trans (by kernel_rfl)
        have e23 : ρ (.tmp 23) = .slice (some ad) N ca := (hρ 23).trans (by kernel_rfl)
        have e24 : ρ (.tmp 24) = .int .i64 k := (hρ 24).trans (by kernel_rfl)
        have e25 : ρ (.tmp 25) = .pointer (some (ad.add (k * 2))) := (hρ 25).trans (by kernel_rfl)
        have e26 : ρ (.tmp 26) = .pointer (some ⟨(ad.add (k * 2)).block, (ad.add (k * 2)).off + 1, none⟩) := (hρ 26).trans (by kernel_rfl)
        have e27 : ρ (.tmp 27) = .slice xD xm xd := (hρ 27).trans (by kernel_rfl)
        clear hρ
        simp only [List.mem_cons, List.not_mem_nil, or_false] at hy
        rcases hy with rfl | rfl | rfl | rfl | rfl | rfl | rfl | rfl | rfl | rfl | rfl | rfl | rfl | rfl | rfl | rfl
        all_goals
          refine ⟨_, rfl, ?_⟩
          go_simp
          try rfl
      simp only [putA, putD, Act.put, List.setIfInBounds_toArray, List.set_cons_zero, List.set_cons_succ]
      refine spineU_list rfl rfl rfl ?_
      go_wp2_with fail
      have b3 : Below wr.heap.size wr (wr.drew.alloc (.cells #[.slice xA xn xc, .slice xD xm xd] 52)) := (Gw.drew wr).trans ((Gw.alloc wr.drew _).mono (Gw.drew wr).size)
      have E3 : Bk (wr.drew.alloc (.cells #[.slice xA xn xc, .slice xD xm xd] 52)) wr.heap.size 52 #[.slice xA xn xc, .slice xD xm xd] := Bk.new wr.drew 52 #[.slice xA xn xc, .slice xD xm xd]
      have q3 := HS.out.bk.below b3 HS.out.bk.lt
      have HW3 := Lib.hid (show (wr.drew.alloc (.cells #[.slice xA xn xc, .slice xD xm xd] 52)).cell? ⟨q, 0, none⟩ = some (.slice VA k vc) ∧ (wr.drew.alloc (.cells #[.slice xA xn xc, .slice xD xm xd] 52)).cell? ⟨w.heap.size, 0, none⟩ = some (.slice (some ad) N ca) ∧ (wr.drew.alloc (.cells #[.slice xA xn xc, .slice xD xm xd] 52)).cell? (ad.add (k * 2)) = some (.slice xA xn xc) ∧ (wr.drew.alloc (.cells #[.slice xA xn xc, .slice xD xm xd] 52)).cell? ⟨(ad.add (k * 2)).block, (ad.add (k * 2)).off + 1, none⟩ = some (.slice xD xm xd) from ⟨q3.cell 0, HCK.out _ (HS.out.kp.trans (Kept.of_below b3 _))⟩)
      refine ⟨rfl, (by first | exact HW3.out | exact fun _ => HW3.out), ?_⟩
      refine spineU_list rfl rfl rfl ?_
      obtain ⟨i0, hi, hz0, hz1, hz2⟩ := info_parts infoN
      have ho3 := ownsRow_below HS.out.row b3
      refine wp_appR 2 i0 Tryd.underlying22 hi hz0 hz1 hz2 (by rfl) (by decide) rfl (.tmp 15) (.tmp 29) rfl W1.heap.size _ k _ rfl ho3 ⟨wr.heap.size, 0, none⟩ 1 1 [.slice xA xn xc, .slice xD xm xd] rfl rfl (two_news E3) (fun u hu => ?_) (by unfold maxLen; omega) (by omega) (Nat.le_trans HS.out.kp.size b3.size) ?_
      · simp only [List.mem_cons, List.not_mem_nil, or_false] at hu
        rcases hu with rfl | rfl <;> rfl
      intro v5 w5 ho5 hb5 hg5 hv5
      obtain ⟨A5, c5, rfl⟩ := own_form ho5
      have hkp : Kept (fun b => b = q) W1 w5 := (HS.out.kp.trans (Kept.of_below b3 _)).bel hb5
      have hq5 := q3.below hb5 HS.out.lt
      have HW5 := Lib.hid (show w5.cell? ⟨q, 0, none⟩ = some (.slice VA k vc) ∧ w5.cell? ⟨w.heap.size, 0, none⟩ = some (.slice (some ad) N ca) ∧ w5.cell? (ad.add (k * 2)) = some (.slice xA xn xc) ∧ w5.cell? ⟨(ad.add (k * 2)).block, (ad.add (k * 2)).off + 1, none⟩ = some (.slice xD xm xd) from ⟨hq5.cell 0, HCK.out _ hkp⟩)
      have F5 := hq5.free 0
      have C5 := hq5.cell 0
      have H5 := Lib.hid (And.intro ho5 (And.intro hkp hq5))
      clear ho3 ho5 hb5 hg5 hv5 hi hz0 hz1 hz2 b3 E3 q3 hkp hq5 hw0
      refine ⟨rfl, (by first | exact HW5.out | exact fun _ => HW5.out), ?_⟩
      refine spineU_list rfl rfl rfl ?_
      go_wp2_with fail
      refine ⟨rfl, trivial, ?_⟩
      unfold SpineU
      have X : ∃ (k' : Nat) (VA' : Option Addr) (vc' : Nat), (Value.int .i64 ((k : Int) + 1)) = .int .i64 k' ∧ k' ≤ N ∧ ToS w W1 (w5.setCell ⟨q, 0, none⟩ (.slice A5 (k + 1) c5)) q 0 k' 52 VA' vc' ((ns.take k').flatMap Nv.cs) #[.slice VA' k' vc', .slice none 0 0] := by
        obtain ⟨h1, h2, h3⟩ := H5.out
        refine ⟨k + 1, A5, c5, by go_num, by omega, ?_, h3.set 0 _, h2.trans (Kept.set w5 q 0 _), HS.out.lt⟩
        rw [HT.out]
        refine World.ownsRow.kept h1 (grown_set w5 ⟨q, 0, none⟩ _) ?_
        cases e : (Value.slice A5 (k + 1) c5).ownBlock with
        | none => exact .inl rfl
        | some c => exact .inr (fun e2 => by injection e2 with e2; have e3 : c = q := e2; have h5 := (World.ownsRow.lt h1 c e).1; have := HS.out.lt; omega)
      clear F5 C5 H5 HS
      go_wp2_with fail
      go_roundw
      case rel => first | exact X | exact ⟨_, _, _, _, _, _, _, _, _, _, _, _, _, _, _, _, _, _, X, rfl⟩
      case measure => simp [Go.RowKit.intOf]; omega
    · have hkN : k = N := by omega
      subst hkN
      have HR := Lib.hid (show wr.ownsRow W1.heap.size 52 2 (.slice VA k vc) ns.length (ns.flatMap Nv.cs) ∧ q < W1.heap.size from by
        have h := HS.out.row
        rw [List.take_of_length_le (by rw [← HN.out.1]; exact Nat.le_refl _)] at h
        rw [← HN.out.1]
        exact ⟨h, HS.out.lt⟩)
      have HW2 := Lib.hid (show Bk wr w.heap.size 32 #[.slice A k ca, .slice A2 M ca2] ∧ Bk wr (w.heap.size + 1) 25 #[.slice none 0 0, .slice none 0 0] ∧ Below w.heap.size w wr ∧ q = w.heap.size + 2 from by
        obtain ⟨h1, h2, h3, h4⟩ := HW1.out
        have hK := HS.out.kp
        exact ⟨hK.bk h1 (by omega), hK.bk h2 (by omega), h3.trans (hK.below h3.size (fun c e => by rw [e]; omega)), h4⟩)
      have HX2 := Lib.hid HS.out.bk
      have e0 := HW2.out.1.two.1
      obtain ⟨B0, hB0⟩ : ∃ B0, B0 = W1.heap.size := ⟨_, rfl⟩
      rw [← hB0] at HR
      clear HS HW1 HX1 hB0
      go_wp2_with fail
      clear e0
      obtain ⟨W1, hW1⟩ : ∃ W1, W1 = wr := ⟨_, rfl⟩
      rw [← hW1] at HR HW2 HX2 ⊢
      have HW1 := Lib.hid HW2.out
      clear HW2 hW1 hlt hk
      obtain ⟨NA, hNA⟩ : ∃ NA, NA = VA := ⟨_, rfl⟩
      obtain ⟨nc, hnc⟩ : ∃ nc, nc = vc := ⟨_, rfl⟩
      rw [← hNA, ← hnc] at HR HX2
      clear hNA hnc
      obtain ⟨N, hNk⟩ : ∃ N, N = k := ⟨_, rfl⟩
      rw [← hNk] at HR HX2 HW1 HN q0 ⊢
      clear hNk
      go_loopw [5] (fun i W => ∃ (k : Nat) (VA : Option Addr) (vc : Nat), i = .int .i64 k ∧ k ≤ M ∧ ToS w W1 W q 1 k 55 VA vc ((rs.take k).flatMap Rv.cs) #[.slice NA N nc, .slice VA k vc]) (fun i _ => M - (Go.RowKit.intOf i).toNat)
      case atStart => exact ⟨0, none, 0, rfl, Nat.zero_le _, ⟨by simp, .inl ⟨rfl, rfl⟩⟩, HX2.out, Kept.refl _ _, HX2.out.lt⟩
      case round =>
        obtain ⟨k, VA, vc, rfl, hk, hS⟩ := hrel
        have HS := Lib.hid hS
        clear hS
        by_cases hlt : k < M
        · have hkl : k < rs.length := by rw [← HN.out.2]; exact hlt
          obtain ⟨x, hx⟩ : ∃ x, x = rs[k] := ⟨_, rfl⟩
          obtain ⟨ad, rfl, had, hc2, hc3⟩ : ∃ ad, A2 = some ad ∧ ad.block < w.heap.size ∧ w.cell? (ad.add (k * 2)) = some (.string x.s) ∧ w.cell? ⟨(ad.add (k * 2)).block, (ad.add (k * 2)).off + 1, none⟩ = some (.int .i64 x.t) := by
            obtain ⟨ad, e, e2, h1, h2⟩ := HG.out.r k hkl
            exact ⟨ad, e, e2, by rw [hx]; exact h1, by rw [hx]; exact h2⟩
          have HT := Lib.hid (show (rs.take (k + 1)).flatMap Rv.cs = (rs.take k).flatMap Rv.cs ++ [.string x.s, .int .i64 x.t] from by rw [take_snoc rs k hkl, List.flatMap_append, ← hx]; simp [Rv.cs])
          obtain ⟨rs2, rt⟩ := x
          simp only at hc2 hc3 HT
          clear hx hkl
          have HCK := Lib.hid (fun (W : World) (hK : Kept (fun b => b = q) W1 W) => show W.cell? ⟨w.heap.size, 1, none⟩ = some (.slice (some ad) M ca2) ∧ W.cell? (ad.add (k * 2)) = some (.string rs2) ∧ W.cell? ⟨(ad.add (k * 2)).block, (ad.add (k * 2)).off + 1, none⟩ = some (.int .i64 rt) from by
            have hb := hK.bk HW1.out.1 (show ¬ (w.heap.size = q) from by have := HW1.out.2.2.2; omega)
            have hw : Below w.heap.size w W := HW1.out.2.2.1.trans (hK.below HW1.out.2.2.1.size (fun c e => by rw [e]; have := HW1.out.2.2.2; omega))
            exact ⟨hb.cell 1, (hw.cell (cell_lt hc2)).trans hc2, (hw.cell (cell_lt hc3)).trans hc3⟩)
          have p1 : (0 : Int) ≤ (k : Int) := by omega
          have p2 : (k : Int) < (M : Int) := by omega
          have hw0 : wr.drew.cell? ⟨q, 1, none⟩ = some (.slice VA k vc) ∧ wr.drew.cell? ⟨w.heap.size, 1, none⟩ = some (.slice (some ad) M ca2) ∧ wr.drew.cell? (ad.add (k * 2)) = some (.string rs2) ∧ wr.drew.cell? ⟨(ad.add (k * 2)).block, (ad.add (k * 2)).off + 1, none⟩ = some (.int .i64 rt) := ⟨(HS.out.bk.below (Gw.drew wr) HS.out.bk.lt).cell 1, HCK.out _ (HS.out.kp.trans (Kept.of_below (Gw.drew wr) _))⟩
          have hg0 := (HCK.out _ HS.out.kp).1
          clear hc2 hc3 had
          go_wp2_with fail
          clear hg0
          refine region_by_spineU 18 [15, 16, 18] [(0, 39, .pointer (some ⟨q, 1, none⟩)), (1, 40, .slice VA k vc), (2, 41, .pointer (some ⟨w.heap.size, 1, none⟩)), (3, 42, .slice (some ad) M ca2), (4, 43, .int .i64 k), (5, 44, .pointer (some (ad.add (k * 2)))), (6, 45, .pointer (some (ad.add (k * 2)))), (7, 46, .string rs2), (8, 47, .pointer (some ⟨w.heap.size, 1, none⟩)), (9, 48, .slice (some ad) M ca2), (10, 49, .int .i64 k), (11, 50, .pointer (some (ad.add (k * 2)))), (12, 51, .pointer (some ⟨(ad.add (k * 2)).block, (ad.add (k * 2)).off + 1, none⟩)), (13, 52, .int .i64 rt), (14, 53, .agg #[.string rs2, .int .i64 rt]), (17, 56, .pointer (some ⟨q, 1, none⟩))]
            (fun W => W.cell? ⟨q, 1, none⟩ = some (.slice VA k vc) ∧ W.cell? ⟨w.heap.size, 1, none⟩ = some (.slice (some ad) M ca2) ∧ W.cell? (ad.add (k * 2)) = some (.string rs2) ∧ W.cell? ⟨(ad.add (k * 2)).block, (ad.add (k * 2)).off + 1, none⟩ = some (.int .i64 rt)) (by kernel_rfl) (by kernel_rfl) (by kernel_rfl) (by kernel_rfl) (by kernel_rfl) (by kernel_rfl) (by kernel_rfl) hw0 ?_ ?_
          · intro y hy V ρ hV hρ hcst
            obtain ⟨k1, k2, k3, k4⟩ := hV
            have e1 : ρ (.tmp 1) = .pointer (some ⟨w.heap.size, 0, none⟩) := (hρ 1).trans (by kernel_rfl)
            have e3 : ρ (.tmp 3) = .pointer (some ⟨q, 0, none⟩) := (hρ 3).trans (by kernel_rfl)
            have e5 : ρ (.tmp 5) = .int .i64 k := (hρ 5).trans (by kernel_rfl)
            have e39 : ρ (.tmp 39) = .pointer (some ⟨q, 1, none⟩) := (hρ 39).trans (by kernel_rfl)
            have e40 : ρ (.tmp 40) = .slice VA k vc := (hρ 40).trans (by kernel_rfl)
            have e41 : ρ (.tmp 41) = .pointer (some ⟨w.heap.size, 1, none⟩) := (hρ 41).trans (by kernel_rfl)
            have e42 : ρ (.tmp 42) = .slice (some ad) M ca2 := (hρ 42).trans (by kernel_rfl)
            have e43 : ρ (.tmp 43) = .int .i64 k := (hρ 43).trans (by kernel_rfl)
            have e44 : ρ (.tmp 44) = .pointer (some (ad.add (k * 2))) := (hρ 44).trans (by kernel_rfl)
            have e45 : ρ (.tmp 45) = .pointer (some (ad.add (k * 2))) := (hρ 45).trans (by kernel_rfl)
            have e46 : ρ (.tmp 46) = .string rs2 := (hρ 46).trans (by kernel_rfl)
            have e47 : ρ (.tmp 47) = .pointer (some ⟨w.heap.size, 1, none⟩) := (hρ 47).trans (by kernel_rfl)
            have e48 : ρ (.tmp 48) = .slice (some ad) M ca2 := (hρ 48).trans (by kernel_rfl)
            have e49 : ρ (.tmp 49) = .int .i64 k := (hρ 49).trans (by kernel_rfl)
            have e50 : ρ (.tmp 50) = .pointer (some (ad.add (k * 2))) := (hρ 50).trans (by kernel_rfl)
            have e51 : ρ (.tmp 51) = .pointer (some ⟨(ad.add (k * 2)).block, (ad.add (k * 2)).off + 1, none⟩) := (hρ 51).trans (by kernel_rfl)
            have e52 : ρ (.tmp 52) = .int .i64 rt := (hρ 52).trans (by kernel_rfl)
            clear hρ
            simp only [List.mem_cons, List.not_mem_nil, or_false] at hy
            rcases hy with rfl | rfl | rfl | rfl | rfl | rfl | rfl | rfl | rfl | rfl | rfl | rfl | rfl | rfl | rfl | rfl
            all_goals
              refine ⟨_, rfl, ?_⟩
              go_simp
              try rfl
          simp only [putA, putD, Act.put, List.setIfInBounds_toArray, List.set_cons_zero, List.set_cons_succ]
          refine spineU_list rfl rfl rfl ?_
          go_wp2_with fail
          have b3 : Below wr.heap.size wr (wr.drew.alloc (.cells #[.string rs2, .int .i64 rt] 55)) := (Gw.drew wr).trans ((Gw.alloc wr.drew _).mono (Gw.drew wr).size)
          have E3 : Bk (wr.drew.alloc (.cells #[.string rs2, .int .i64 rt] 55)) wr.heap.size 55 #[.string rs2, .int .i64 rt] := Bk.new wr.drew 55 #[.string rs2, .int .i64 rt]
          have q3 := HS.out.bk.below b3 HS.out.bk.lt
          have HW3 := Lib.hid (show (wr.drew.alloc (.cells #[.string rs2, .int .i64 rt] 55)).cell? ⟨q, 1, none⟩ = some (.slice VA k vc) ∧ (wr.drew.alloc (.cells #[.string rs2, .int .i64 rt] 55)).cell? ⟨w.heap.size, 1, none⟩ = some (.slice (some ad) M ca2) ∧ (wr.drew.alloc (.cells #[.string rs2, .int .i64 rt] 55)).cell? (ad.add (k * 2)) = some (.string rs2) ∧ (wr.drew.alloc (.cells #[.string rs2, .int .i64 rt] 55)).cell? ⟨(ad.add (k * 2)).block, (ad.add (k * 2)).off + 1, none⟩ = some (.int .i64 rt) from ⟨q3.cell 1, HCK.out _ (HS.out.kp.trans (Kept.of_below b3 _))⟩)
          refine ⟨rfl, (by first | exact HW3.out | exact fun _ => HW3.out), ?_⟩
          refine spineU_list rfl rfl rfl ?_
          obtain ⟨i0, hi, hz0, hz1, hz2⟩ := info_parts infoR
          have ho3 := ownsRow_below HS.out.row b3
          refine wp_appR 2 i0 Tryd.underlying23 hi hz0 hz1 hz2 (by rfl) (by decide) rfl (.tmp 40) (.tmp 54) rfl W1.heap.size _ k _ rfl ho3 ⟨wr.heap.size, 0, none⟩ 1 1 [.string rs2, .int .i64 rt] rfl rfl (two_news E3) (fun u hu => ?_) (by unfold maxLen; omega) (by omega) (Nat.le_trans HS.out.kp.size b3.size) ?_
          · simp only [List.mem_cons, List.not_mem_nil, or_false] at hu
            rcases hu with rfl | rfl <;> rfl
          intro v5 w5 ho5 hb5 hg5 hv5
          obtain ⟨A5, c5, rfl⟩ := own_form ho5
          have hkp : Kept (fun b => b = q) W1 w5 := (HS.out.kp.trans (Kept.of_below b3 _)).bel hb5
          have hq5 := q3.below hb5 HS.out.lt
          have HW5 := Lib.hid (show w5.cell? ⟨q, 1, none⟩ = some (.slice VA k vc) ∧ w5.cell? ⟨w.heap.size, 1, none⟩ = some (.slice (some ad) M ca2) ∧ w5.cell? (ad.add (k * 2)) = some (.string rs2) ∧ w5.cell? ⟨(ad.add (k * 2)).block, (ad.add (k * 2)).off + 1, none⟩ = some (.int .i64 rt) from ⟨hq5.cell 1, HCK.out _ hkp⟩)
          have F5 := hq5.free 1
          have C5 := hq5.cell 1
          have H5 := Lib.hid (And.intro ho5 (And.intro hkp hq5))
          clear ho3 ho5 hb5 hg5 hv5 hi hz0 hz1 hz2 b3 E3 q3 hkp hq5 hw0
          refine ⟨rfl, (by first | exact HW5.out | exact fun _ => HW5.out), ?_⟩
          refine spineU_list rfl rfl rfl ?_
          go_wp2_with fail
          refine ⟨rfl, trivial, ?_⟩
          unfold SpineU
          have X : ∃ (k' : Nat) (VA' : Option Addr) (vc' : Nat), (Value.int .i64 ((k : Int) + 1)) = .int .i64 k' ∧ k' ≤ M ∧ ToS w W1 (w5.setCell ⟨q, 1, none⟩ (.slice A5 (k + 1) c5)) q 1 k' 55 VA' vc' ((rs.take k').flatMap Rv.cs) #[.slice NA N nc, .slice VA' k' vc'] := by
            obtain ⟨h1, h2, h3⟩ := H5.out
            refine ⟨k + 1, A5, c5, by go_num, by omega, ?_, h3.set 1 _, h2.trans (Kept.set w5 q 1 _), HS.out.lt⟩
            rw [HT.out]
            refine World.ownsRow.kept h1 (grown_set w5 ⟨q, 1, none⟩ _) ?_
            cases e : (Value.slice A5 (k + 1) c5).ownBlock with
            | none => exact .inl rfl
            | some c => exact .inr (fun e2 => by injection e2 with e2; have e3 : c = q := e2; have h5 := (World.ownsRow.lt h1 c e).1; have := HS.out.lt; omega)
          clear F5 C5 H5 HS
          go_wp2_with fail
          go_roundw
          case rel => first | exact X | exact ⟨_, _, _, _, _, _, _, _, _, _, _, _, _, _, _, _, _, _, X, rfl⟩
          case measure => simp [Go.RowKit.intOf]; omega
        · have hkM : k = M := by omega
          subst hkM
          have hK := HS.out.kp
          have HR2 := Lib.hid (show wr.ownsRow W1.heap.size 55 2 (.slice VA k vc) rs.length (rs.flatMap Rv.cs) from by
            have h := HS.out.row
            rw [List.take_of_length_le (by rw [← HN.out.2]; exact Nat.le_refl _)] at h
            rw [← HN.out.2]
            exact h)
          obtain ⟨h1, h2, h3, h4⟩ := HW1.out
          have hrb := hK.bk h2 (show ¬ (w.heap.size + 1 = q) from by omega)
          have hgb := hK.bk h1 (show ¬ (w.heap.size = q) from by omega)
          have hbw : Below w.heap.size w wr := h3.trans (hK.below h3.size (fun c e => by rw [e]; omega))
          have g0 := hgb.two.2
          have d0 := hrb.two.1
          have d1 := hrb.two.2
          have d2 := hrb.free 0
          have d3 := hrb.free 1
          have e0 := HS.out.bk.two.1
          have e1 := HS.out.bk.two.2
          have HF := Lib.hid (And.intro hrb (And.intro hbw (And.intro h4 (show W1.heap.size > w.heap.size + 1 from h2.lt))))
          clear h1 h2 h3 h4 hrb hgb hbw hK
          go_wp2_with fail
          obtain ⟨o1, o2, o3, o4⟩ := HF.out
          have hbz : Bk ((wr.setCell ⟨w.heap.size + 1, 0, none⟩ (.slice NA N nc)).setCell ⟨w.heap.size + 1, 1, none⟩ (.slice VA k vc)) (w.heap.size + 1) 25 #[.slice NA N nc, .slice VA k vc] := by
            have h := (o1.set 0 (.slice NA N nc)).set 1 (.slice VA k vc)
            simpa using h
          refine bodyPost_ret (v := .agg #[.slice NA N nc, .slice VA k vc]) (to_res hbz rfl) rfl ?_
          have hKf : Kept (fun b => b = w.heap.size + 1) wr ((wr.setCell ⟨w.heap.size + 1, 0, none⟩ (.slice NA N nc)).setCell ⟨w.heap.size + 1, 1, none⟩ (.slice VA k vc)) := (Kept.set wr _ 0 _).trans (Kept.set _ _ 1 _)
          have hbf : Below w.heap.size w ((wr.setCell ⟨w.heap.size + 1, 0, none⟩ (.slice NA N nc)).setCell ⟨w.heap.size + 1, 1, none⟩ (.slice VA k vc)) := o2.trans (hKf.below o2.size (fun c e => by rw [e]; omega))
          have r1 := row_kept hKf (row_kept HS.out.kp HR.out.1 (fun c e => by rw [e]; exact HR.out.2)) (fun c e => by rw [e]; have := HR.out.2; omega)
          have r2 := row_kept hKf HR2.out (fun c e => by rw [e]; exact o4)
          refine ⟨⟨NA, nc, VA, vc, ns, rs⟩, ?_, ⟨nrow_of r1 (fun x hx => ?_), rrow_of r2, (own_len r1).2, (own_len r2).2⟩, rfl, rfl, hbf⟩
          · show Ending.returned _ = Ending.returned (Value.agg #[.slice NA ns.length nc, .slice VA rs.length vc])
            rw [← HN.out.1, ← HN.out.2]
          · obtain ⟨i, hi, rfl⟩ := List.mem_iff_getElem.1 hx
            obtain ⟨_, _, _, _, _, h⟩ := HG.out.n i hi
            exact h.up hbf
end Go.Proofs.YtdppnggchpchgaaDoor
