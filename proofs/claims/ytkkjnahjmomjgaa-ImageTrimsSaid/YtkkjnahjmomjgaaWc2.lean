/- Texts joined: CaE GtA FiC FiA GtZ GtCz OpenR OpenG. -/
import Derived.Test.YtkkjnahjmomjgaaWc1
import Derived.Test.YtkkjnahjmomjgaaGrG
import Derived.Test.YtkkjnahjmomjgaaGrC
import Derived.Test.YtkkjnahjmomjgaaHdL
import Derived.LoopTactic
import Derived.Test.YtkkjnahjmomjgaaGrO
import Derived.Test.YtkkjnahjmomjgaaMmA
import Derived.Test.YtkkjnahjmomjgaaFrame
import Derived.Deep.Slices
import Derived.Deep.Fields
import Derived.Test.YtkkjnahjmomjgaaGrA
/- canon.Canon, canon.Same: a graph but for its numbers. Conditions: lengths; numbers of 64 bits. -/
namespace Go.Proofs.Ytkkjnahjmomjgaa
set_option linter.unusedVariables false
set_option linter.unusedSimpArgs false
open Go.RowKit Go.Maps
/-- What Canon works on. -/
structure KS (w W : World) (mb D oc : Nat) (OA : Option Addr) (vn vr : Value) (l : List (Int × Int)) (od : List Int) : Prop where
  gb : Bk W w.heap.size 25 #[vn, vr]
  rb : Bk W (w.heap.size + 1) 25 #[.slice none 0 0, .slice none 0 0]
  od : Rd iV W W.heap.size OA od
  mp : MapIs W (some mb) l
  bl : Below w.heap.size w W
theorem KS.below {w W W' : World} {mb D oc : Nat} {OA : Option Addr} {vn vr : Value} {l : List (Int × Int)} {od : List Int} (h : KS w W mb D oc OA vn vr l od) (hb : Below W.heap.size W W') : KS w W' mb D oc OA vn vr l od :=
  ⟨h.gb.below hb h.gb.lt, h.rb.below hb h.rb.lt, (h.od.below hb).more hb.size, map_below h.mp hb, h.bl.trans (hb.mono h.bl.size)⟩
theorem canon_res {tmps : Array Value} {W : World} {g : Nat} {a b : Value} (hb : Bk W g 25 #[a, b]) (h2 : tmps.getD 2 undef = .pointer (some ⟨g, 0, none⟩)) :
    (results Try.f55 tmps).run Try.prog W = .ok (.agg #[a, b]) W := by
  have hl := run_loadVar_row (P := Try.prog) W g 25 25 #[a, b] (0, 0) _ hb Try.underlying25 rfl (by kernel_rfl)
  have h2' : tmps[2]?.getD undef = .pointer (some ⟨g, 0, none⟩) := by simpa using h2
  simp [results, Try.results55, h2', asAddr, hl]
theorem pickN_snoc (ns : List Nv) (od l : List Int) (p : Int) : pickN ns od (l ++ [p]) = pickN ns od l ++ [pick1 ns od p] := by unfold pickN; rw [List.map_append]; rfl
set_option maxHeartbeats 4000000
set_option maxRecDepth 100000
theorem canon_g (w : World) (g : Gv) (hg : g.At w w.heap.size) (hs : g.Small) (hs2 : g.r.length ≤ 100000) (hpt : ∀ x ∈ g.n, ∀ p ∈ x.ps, (Lit.int .i64 p).wf = true) (hrt : ∀ r ∈ g.r, (Lit.int .i64 r.t).wf = true) :
    Calls Try.prog 55 #[g.v] w fun e w' => ∃ g' : Gv, e = .returned g'.v ∧ g'.At w' w'.heap.size ∧ g'.n.map Nv.m = pickN g.n (walkL g.n (g.r.map (·.t))) (walkL g.n (g.r.map (·.t))) ∧ g'.r = g.r.map (fun r => (⟨r.s, newO (walkL g.n (g.r.map (·.t))) r.t⟩ : Rv)) ∧ Below w.heap.size w w' := by
  have HG := Lib.hid hg
  have HSm := Lib.hid hs
  have HW := Lib.hid (And.intro hpt hrt)
  have HWk := Lib.hid (fun W (b : Below w.heap.size w W) => cwalk_c W g (hg.up b) hs)
  obtain ⟨GA, ca, A2, ca2, ns, rs⟩ := g
  simp only at hs2 HW HWk
  obtain ⟨N, hN⟩ : ∃ N, N = ns.length := ⟨_, rfl⟩
  obtain ⟨M, hM⟩ : ∃ M, M = rs.length := ⟨_, rfl⟩
  have HN := Lib.hid (And.intro hN hM)
  have q0 : (N : Int) ≤ 1000000 := by rw [hN]; exact Int.ofNat_le.2 hs.1
  have q1 : (M : Int) ≤ 100000 := by rw [hM]; exact Int.ofNat_le.2 hs2
  obtain ⟨od, hod⟩ : ∃ od, od = walkL ns (rs.map (·.t)) := ⟨_, rfl⟩
  have HOd := Lib.hid (show od.length ≤ ns.length ∧ ∀ p ∈ od, hasG ns.length p = true from by rw [hod]; exact ⟨walkL_len _ _, (walkL_nd _ _).2⟩)
  unfold Gv.v Gv.vn Gv.vr at HWk ⊢
  simp only at HWk ⊢
  rw [← hN, ← hM, ← hod] at HWk
  rw [← hN, ← hM, ← hod]
  clear hg hs hs2 hpt hrt hN hM hod
  go_enter Try.func55, Try.ntmps55
  go_wp2_with fail
  obtain ⟨W0, hW0⟩ : ∃ W, W = (w.alloc (.cells #[.slice GA N ca, .slice A2 M ca2] 25)).alloc (.cells #[.slice none 0 0, .slice none 0 0] 25) := ⟨_, rfl⟩
  have hK0 : Bk W0 w.heap.size 25 #[.slice GA N ca, .slice A2 M ca2] ∧ Bk W0 (w.heap.size + 1) 25 #[.slice none 0 0, .slice none 0 0] ∧ Below w.heap.size w W0 := by
    rw [hW0]
    refine ⟨(Bk.new w _ _).alloc _, ?_, (Gw.alloc w _).trans ((Gw.alloc _ _).mono (Gw.alloc w _).size)⟩
    have := Bk.new (w.alloc (.cells #[.slice GA N ca, .slice A2 M ca2] 25)) 25 #[.slice none 0 0, .slice none 0 0]
    simpa using this
  rw [← hW0]
  have H0 := Lib.hid hK0
  clear hW0 hK0
  refine Calls.mono (HWk.out W0 H0.out.2.2) ?_
  rintro r W1 ⟨OA, oc, mb, l, rfl, ho, hm, hcm, b2⟩
  obtain ⟨D, hD⟩ : ∃ D, D = od.length := ⟨_, rfl⟩
  rw [← hD]
  have hKS : KS w W1 mb D oc OA (.slice GA N ca) (.slice A2 M ca2) l od := ⟨H0.out.1.below b2 H0.out.1.lt, H0.out.2.1.below b2 H0.out.2.1.lt, ho, hm, H0.out.2.2.trans (b2.mono H0.out.2.2.size)⟩
  have HS := Lib.hid hKS
  have HC := Lib.hid (And.intro hcm hD)
  have qD : (D : Int) ≤ 1000000 := by have := HOd.out.1; have := HN.out.1; omega
  have c1 := hKS.rb.lt
  clear ho hm hcm b2 hD hKS H0
  obtain ⟨ob, hob⟩ : ∃ ob, W1.heap.size = ob := ⟨_, rfl⟩
  go_wp2_with fail

  have HOb := Lib.hid hob.symm
  clear hob
  go_loopw [18] (fun i W => ∃ (k m : Nat) (VA : Option Addr) (vc : Nat) (xs : List Nv), i = .int .i64 k ∧ k ≤ D ∧ Hid (xs.map Nv.m = pickN ns od (od.take k)) ∧ Hid (xs.length = m ∧ m = k) ∧ NOwn W (ob + 1) (.slice VA m vc) xs ∧ Bk W ob 25 #[.slice VA m vc, .slice none 0 0] ∧ Below ob W1 W) (fun i _ => D - (Go.RowKit.intOf i).toNat)
  case atStart =>
    refine ⟨0, 0, none, 0, [], rfl, Nat.zero_le _, Lib.hid rfl, Lib.hid ⟨rfl, rfl⟩, NOwn.nil _ _, ?_, ?_⟩
    · rw [HOb.out]; exact Bk.new _ _ _
    · rw [HOb.out]; exact Gw.alloc _ _
  case round =>
    obtain ⟨k, m, VA, vc, xs, rfl, hk, hm, hmx, ho, hb1, hB⟩ := hrel
    have hsz := hb1.lt
    have hSr : KS w wr mb D oc OA (.slice GA N ca) (.slice A2 M ca2) l od := HS.out.below (HOb.out ▸ hB)
    by_cases hlt : k < D
    · have hko : k < od.length := by rw [← HC.out.2]; exact hlt
      obtain ⟨p, hp⟩ : ∃ p, p = od[k] := ⟨_, rfl⟩
      have hpg := hasG_iff.1 (HOd.out.2 p (by rw [hp]; exact List.getElem_mem _))
      obtain ⟨j, rfl, hj⟩ : ∃ j : Nat, p = (j : Int) + 1 ∧ j < N := ⟨(p - 1).toNat, by omega, by have := HN.out.1; omega⟩
      obtain ⟨ao, rfl, hco⟩ : ∃ ao, OA = some ao ∧ wr.cell? (ao.add k) = some (.int .i64 ((j : Int) + 1)) := by
        obtain ⟨ad, e, _, hc⟩ := hSr.od k hko
        exact ⟨ad, e, by rw [hp]; exact hc⟩
      have hjl : j < ns.length := by rw [← HN.out.1]; exact hj
      obtain ⟨x, hx⟩ : ∃ x, x = ns[j] := ⟨_, rfl⟩
      have hbw : Below w.heap.size w wr := hSr.bl
      obtain ⟨ad, rfl, hc2, hc3, hxa⟩ : ∃ ad, GA = some ad ∧ wr.cell? (ad.add (j * 2)) = some x.vp ∧ wr.cell? ⟨(ad.add (j * 2)).block, (ad.add (j * 2)).off + 1, none⟩ = some x.vd ∧ x.At wr wr.heap.size := by
        obtain ⟨ad, e, _, h1, h2, h3⟩ := (HG.out.n.below hbw) j hjl
        exact ⟨ad, e, by rw [hx]; exact h1, by rw [hx]; exact h2, by rw [hx]; exact h3.more hbw.size⟩
      have hsm := HSm.out.2.2 x (by rw [hx]; exact List.getElem_mem _)
      have hwf := HW.out.1 x (by rw [hx]; exact List.getElem_mem _)
      have HC1 := Lib.hid (fun W (hb : Below wr.heap.size wr W) => cnum_c W x.A x.c mb x.ps l (hxa.up hb).p (map_below hSr.mp hb) (by omega) hwf)
      have HC2 := Lib.hid (fun W (hb : Below wr.heap.size wr W) => clone_c x.bs x.D x.d W (hxa.up hb).b (by omega))
      have hmm : ∀ z : Nv, z.m = (x.ps.map (newP l), x.bs) → (xs ++ [z]).map Nv.m = pickN ns od (od.take (k + 1)) ∧ (xs ++ [z]).length = m + 1 ∧ m + 1 = k + 1 := fun z hz => by
        have e2 : pick1 ns od ((j : Int) + 1) = (x.ps.map (newP l), x.bs) := by rw [pick1_at hjl, ← hx, HC.out.1.map_new]
        rw [take_snoc od k hko, ← hp, pickN_snoc, ← hm.out, e2, List.map_append, List.length_append, hmx.out.1]
        simp [hz, hmx.out.2]
      have HMM := Lib.hid hmm
      obtain ⟨xA, xc, xD, xd, xps, xbs⟩ := x
      unfold Nv.vp at hc2
      unfold Nv.vd at hc3
      unfold NewP at HC2
      simp only at HC1 HC2 hc2 hc3 HMM
      obtain ⟨xn, hxn⟩ : ∃ n, n = xps.length := ⟨_, rfl⟩
      obtain ⟨xm, hxm⟩ : ∃ n, n = xbs.length := ⟨_, rfl⟩
      rw [← hxn] at hc2 HC1
      rw [← hxm] at hc3 HC2
      have p1 : (0 : Int) ≤ (k : Int) := by omega
      have p2 : (k : Int) < (D : Int) := by omega
      have p3 : (0 : Int) ≤ (j : Int) := by omega
      have p4 : (j : Int) < (N : Int) := by omega
      have HX := Lib.hid (And.intro hxn (And.intro hxm hmx.out.1))
      have hmN : (m : Int) ≤ 1000000 := by have := hmx.out.2; omega
      have HO := Lib.hid (And.intro ho (And.intro hb1 hB))
      have hcl := cell_lt hc2
      have hcl' : (ad.add (j * 2)).block < wr.heap.size := hcl
      have g0 := hSr.gb.two.1
      have hgl := hSr.gb.lt
      have hva : (∀ a, VA = some a → ob + 1 ≤ a.block ∧ a.block < wr.heap.size) := fun a e => by
        subst e
        exact ⟨(ho.row.lt a.block rfl).1, (ho.row.lt a.block rfl).2⟩
      have HVA := Lib.hid hva
      have HMX := Lib.hid hmx.out
      have HB1 := Lib.hid hb1
      have HSr := Lib.hid hSr
      clear hx hxa hsm hmm hxn hxm hm hmx ho hB hcl hva hwf hSr hb1 hp hpg hjl hko hbw hj
      go_wp2_with fail
      obtain ⟨W0, hW0⟩ : ∃ W0, W0 = wr.alloc (.cells #[.slice xA xn xc, .slice xD xm xd] 54) := ⟨_, rfl⟩
      have b0 : Below wr.heap.size wr W0 := by rw [hW0]; exact Gw.alloc _ _
      have k0 : Bk W0 wr.heap.size 54 #[.slice xA xn xc, .slice xD xm xd] := by rw [hW0]; exact Bk.new _ _ _
      have z0 : W0.heap.size = wr.heap.size + 1 := by rw [hW0]; simp
      have hW0' := Lib.hid hW0
      rw [← hW0]
      clear hW0
      have B0 := Lib.hid b0
      have K0 := Lib.hid k0
      have Z0 := Lib.hid z0
      have Q0 := Lib.hid (HO.out.2.1.below b0 hsz)
      have hw0 : W0.cell? ⟨ob, 0, none⟩ = some (.slice VA m vc) ∧ W0.cell? ⟨wr.heap.size, 0, none⟩ = some (.slice xA xn xc) ∧ W0.cell? ⟨wr.heap.size, 1, none⟩ = some (.slice xD xm xd) := ⟨Q0.out.cell 0, k0.cell 0, k0.cell 1⟩
      clear b0 k0 z0
      refine region_by_spineU 13 [5, 8, 9, 10, 11, 12, 13] [(0, 28, .pointer (some ⟨ob, 0, none⟩)), (1, 29, .slice VA m vc), (2, 30, .pointer (some ⟨wr.heap.size, 0, none⟩)), (3, 31, .slice xA xn xc), (4, 32, .map (some mb)), (6, 34, .pointer (some ⟨wr.heap.size, 1, none⟩)), (7, 35, .slice xD xm xd)]
        (fun W => W.cell? ⟨ob, 0, none⟩ = some (.slice VA m vc) ∧ W.cell? ⟨wr.heap.size, 0, none⟩ = some (.slice xA xn xc) ∧ W.cell? ⟨wr.heap.size, 1, none⟩ = some (.slice xD xm xd)) (by kernel_rfl) (by kernel_rfl) (by kernel_rfl) (by kernel_rfl) (by kernel_rfl) (by kernel_rfl) (by kernel_rfl) hw0 ?_ ?_
      · intro y hy V ρ hV hρ hcst
        obtain ⟨k1, k2, k3⟩ := hV
        have e4 : ρ (.tmp 4) = .map (some mb) := (hρ 4).trans (by kernel_rfl)
        have e5 : ρ (.tmp 5) = .pointer (some ⟨ob, 0, none⟩) := (hρ 5).trans (by kernel_rfl)
        have e8 : ρ (.tmp 8) = .pointer (some ⟨wr.heap.size, 0, none⟩) := (hρ 8).trans (by kernel_rfl)
        have e28 : ρ (.tmp 28) = .pointer (some ⟨ob, 0, none⟩) := (hρ 28).trans (by kernel_rfl)
        have e30 : ρ (.tmp 30) = .pointer (some ⟨wr.heap.size, 0, none⟩) := (hρ 30).trans (by kernel_rfl)
        have e34 : ρ (.tmp 34) = .pointer (some ⟨wr.heap.size, 1, none⟩) := (hρ 34).trans (by kernel_rfl)
        clear hρ
        simp only [List.mem_cons, List.not_mem_nil, or_false] at hy
        rcases hy with rfl | rfl | rfl | rfl | rfl | rfl | rfl
        all_goals
          refine ⟨_, rfl, ?_⟩
          go_simp
          try rfl
      simp only [putA, putD, Act.put, List.setIfInBounds_toArray, List.set_cons_zero, List.set_cons_succ]
      refine spineU_list rfl rfl rfl ?_
      go_wp2_with fail
      refine Calls.mono (HC1.out _ (B0.out.trans ((Gw.drew W0).mono B0.out.size))) ?_
      rintro r2 V1 ⟨PA, pc, rfl, ho1, v1⟩
      have b1 : Below W0.heap.size W0 V1 := (Gw.drew W0).trans v1
      have B1 := Lib.hid b1
      have O1 := Lib.hid (show Ow iV 3 V1 W0.heap.size (.slice PA xn pc) (xps.map (newP l)) from ho1)
      have K1 := Lib.hid (K0.out.below b1 K0.out.lt)
      have Q1 := Lib.hid (Q0.out.below b1 Q0.out.lt)
      have hw1 : V1.cell? ⟨ob, 0, none⟩ = some (.slice VA m vc) ∧ V1.cell? ⟨wr.heap.size, 0, none⟩ = some (.slice xA xn xc) ∧ V1.cell? ⟨wr.heap.size, 1, none⟩ = some (.slice xD xm xd) := ⟨Q1.out.cell 0, K1.out.cell 0, K1.out.cell 1⟩
      have HW1 := Lib.hid hw1
      clear b1 v1 ho1 hw1 hw0
      go_wp2_with fail
      refine ⟨rfl, (by first | exact HW1.out | exact fun _ => HW1.out), ?_⟩
      refine spineU_list rfl rfl rfl ?_
      go_wp2_with fail
      refine Calls.mono (HC2.out _ (B0.out.trans (B1.out.mono B0.out.size))) ?_
      rintro r3 V2 ⟨DA, dc, rfl, ho2, v2⟩
      have B2 := Lib.hid v2
      have O2 := Lib.hid ho2
      have K2 := Lib.hid (K1.out.below v2 K1.out.lt)
      have Q2 := Lib.hid (Q1.out.below v2 Q1.out.lt)
      have hw2 : V2.cell? ⟨ob, 0, none⟩ = some (.slice VA m vc) ∧ V2.cell? ⟨wr.heap.size, 0, none⟩ = some (.slice xA xn xc) ∧ V2.cell? ⟨wr.heap.size, 1, none⟩ = some (.slice xD xm xd) := ⟨Q2.out.cell 0, K2.out.cell 0, K2.out.cell 1⟩
      have HW2 := Lib.hid hw2
      clear v2 ho2 hw2
      go_wp2_with fail
      refine ⟨rfl, (by first | exact HW2.out | exact fun _ => HW2.out), ?_⟩
      refine spineU_list rfl rfl rfl ?_
      go_wp2_with fail
      refine ⟨rfl, (by first | exact HW2.out | exact fun _ => HW2.out), ?_⟩
      refine spineU_list rfl rfl rfl ?_
      go_wp2_with fail
      have b3 := Gw.alloc V2 (.cells #[.slice PA xn pc, .slice DA xm dc] 54)
      have E3 := Lib.hid (Bk.new V2 54 #[.slice PA xn pc, .slice DA xm dc])
      have B3 := Lib.hid b3
      have Q3 := Lib.hid (Q2.out.below b3 Q2.out.lt)
      have hw3 : (V2.alloc (.cells #[.slice PA xn pc, .slice DA xm dc] 54)).cell? ⟨ob, 0, none⟩ = some (.slice VA m vc) ∧ (V2.alloc (.cells #[.slice PA xn pc, .slice DA xm dc] 54)).cell? ⟨wr.heap.size, 0, none⟩ = some (.slice xA xn xc) ∧ (V2.alloc (.cells #[.slice PA xn pc, .slice DA xm dc] 54)).cell? ⟨wr.heap.size, 1, none⟩ = some (.slice xD xm xd) := ⟨Q3.out.cell 0, (K2.out.below b3 K2.out.lt).cell 0, (K2.out.below b3 K2.out.lt).cell 1⟩
      have HW3 := Lib.hid hw3
      clear b3 hw3
      refine ⟨rfl, (by first | exact HW3.out | exact fun _ => HW3.out), ?_⟩
      refine spineU_list rfl rfl rfl ?_
      obtain ⟨i0, hi, hz0, hz1, hz2⟩ := info_parts infoN
      have hb03 : Below wr.heap.size wr (V2.alloc (.cells #[.slice PA xn pc, .slice DA xm dc] 54)) := B0.out.trans ((B1.out.trans (B2.out.trans (B3.out.mono B2.out.size) |>.mono B1.out.size)).mono B0.out.size)
      have HB03 := Lib.hid hb03
      have ho3 := ownsRow_below HO.out.1.row hb03
      rw [HX.out.2.2] at ho3
      refine wp_appR 2 i0 Try.underlying22 hi hz0 hz1 hz2 (by rfl) (by decide) rfl (.tmp 29) (.tmp 38) rfl (ob + 1) _ m _ rfl ho3 ⟨V2.heap.size, 0, none⟩ 1 1 [.slice PA xn pc, .slice DA xm dc] rfl rfl (fun j u hu => ?_) (fun u hu => ?_) (by unfold maxLen; omega) (by omega) (by have := hb03.size; omega) ?_
      · have hj : j < 2 := by have := (List.getElem?_eq_some_iff.1 hu).1; simpa using this
        rw [addr_at, E3.out.cell]
        rcases (show j = 0 ∨ j = 1 by omega) with rfl | rfl
        · simpa using hu
        · simpa using hu
      · simp only [List.mem_cons, List.not_mem_nil, or_false] at hu
        rcases hu with rfl | rfl <;> rfl
      intro v5 w5 ho5 hb5 hg5 hv5
      obtain ⟨A5, c5, rfl⟩ := own_form ho5
      have hgq : ∀ c, (Value.slice VA m vc).ownBlock = some c → ob + 1 ≤ c ∧ c < wr.heap.size := fun c e => by
        obtain ⟨a, e1, e2⟩ := own_sl e
        rw [← e2]; exact HVA.out a e1
      have Q5 := Lib.hid ((hg5.block ob (Nat.lt_of_lt_of_le hsz hb03.size) (fun e => by have := (hgq ob e.symm).1; omega)).trans Q3.out)
      have K5 := Lib.hid ((hg5.block wr.heap.size (Nat.lt_of_lt_of_le (by have := Z0.out; have := B0.out.size; omega) (show W0.heap.size ≤ _ from by have := B1.out.size; have := B2.out.size; have := B3.out.size; omega)) (fun e => by have := (hgq _ e.symm).2; omega)).trans (K2.out.below B3.out K2.out.lt))
      have hw5 : w5.cell? ⟨ob, 0, none⟩ = some (.slice VA m vc) ∧ w5.cell? ⟨wr.heap.size, 0, none⟩ = some (.slice xA xn xc) ∧ w5.cell? ⟨wr.heap.size, 1, none⟩ = some (.slice xD xm xd) := ⟨Bk.cell Q5.out 0, Bk.cell K5.out 0, Bk.cell K5.out 1⟩
      have HW5 := Lib.hid hw5
      have hN5 : NOwn w5 (ob + 1) (.slice A5 (m + 1) c5) (xs ++ [⟨PA, pc, DA, dc, xps.map (newP l), xbs⟩]) := by
        have z1 := B1.out.size
        have z2 := B2.out.size
        have z0 := B0.out.size
        refine NOwn.snoc HO.out.1 hb03 ⟨?_, ?_⟩ ⟨fun c e => ?_, fun c e => ?_, fun c e => ?_⟩ ?_ hg5 hv5
        · have h := (O1.out.below (B2.out.trans (B3.out.mono B2.out.size))).mono (show ob + 1 ≤ W0.heap.size by omega)
          rw [show (⟨PA, pc, DA, dc, xps.map (newP l), xbs⟩ : Nv).vp = .slice PA xn pc from by show Value.slice PA (xps.map (newP l)).length pc = _; rw [List.length_map, ← HX.out.1]]
          exact h
        · have h := (O2.out.below B3.out).mono (show ob + 1 ≤ V1.heap.size by omega)
          rw [show (⟨PA, pc, DA, dc, xps.map (newP l), xbs⟩ : Nv).vd = .slice DA xm dc from by rw [HX.out.2.1]; rfl]
          exact h
        · have h := O1.out
          rw [show (⟨PA, pc, DA, dc, xps.map (newP l), xbs⟩ : Nv).vp = .slice PA xn pc from by show Value.slice PA (xps.map (newP l)).length pc = _; rw [List.length_map, ← HX.out.1]] at e
          have := (h.lt c e).1
          omega
        · have h := O2.out
          rw [HX.out.2.1] at h
          have := (h.lt c e).1
          omega
        · intro e2
          rw [show (⟨PA, pc, DA, dc, xps.map (newP l), xbs⟩ : Nv).vp = .slice PA xn pc from by show Value.slice PA (xps.map (newP l)).length pc = _; rw [List.length_map, ← HX.out.1]] at e
          have h := O1.out
          have h2 := O2.out
          rw [HX.out.2.1] at h2
          have g1 := (h.lt c e).2
          have g2 := (h2.lt c e2).1
          omega
        · rw [HX.out.2.2]
          have h := ho5
          have ec : (⟨PA, pc, DA, dc, xps.map (newP l), xbs⟩ : Nv).cs = [.slice PA xn pc, .slice DA xm dc] := by
            show [Value.slice PA (xps.map (newP l)).length pc, Value.slice DA xbs.length dc] = _
            rw [List.length_map, ← HX.out.1, ← HX.out.2.1]
          rw [ec]
          exact h
      have H5 := Lib.hid (And.intro hN5 (show Below ob W1 w5 from (HO.out.2.2.trans (hb03.mono (by omega))).trans ((Below.refl _ _).grown hg5 (by have := hb03.size; omega) (fun c e => by have := (hgq c e).1; omega))))
      have F5 := Lib.hid (Bk.free Q5.out 0)
      clear ho3 ho5 hb5 hg5 hv5 hgq hw5 hi hz0 hz1 hz2 hb03 hN5
      refine ⟨rfl, (by first | exact HW5.out | exact fun _ => HW5.out), ?_⟩
      refine spineU_list rfl rfl rfl ?_
      go_wp2_with fail
      refine ⟨rfl, (by first | exact HW5.out | exact fun _ => HW5.out), ?_⟩
      refine spineU_list rfl rfl rfl ?_
      have c52 := Bk.cell Q5.out 0
      have f52 := F5.out
      have Q6 := Lib.hid (Bk.set Q5.out 0 (.slice A5 (m + 1) c5))
      go_wp2_with fail
      refine ⟨rfl, trivial, ?_⟩
      unfold SpineU
      have hnq : ob ∉ (Value.slice A5 (m + 1) c5).ownBlock.toList ++ blksN (xs ++ [⟨PA, pc, DA, dc, xps.map (newP l), xbs⟩]) := fun h => by
        have := blks_ge H5.out.1 ob h
        omega
      have H6 := Lib.hid (And.intro (H5.out.1.grown (grown_set w5 ⟨ob, 0, none⟩ (.slice A5 (m + 1) c5)) hnq) (H5.out.2.trans ((Below.refl _ _).setCell (p := ⟨ob, 0, none⟩) (Nat.le_refl _) (.slice A5 (m + 1) c5))))
      clear c52 f52 hnq
      go_wp2_with fail
      go_roundw
      case rel =>
        have hX := HMM.out ⟨PA, pc, DA, dc, xps.map (newP l), xbs⟩ rfl
        have X : ∃ (k' m' : Nat) (VA' : Option Addr) (vc' : Nat) (xs' : List Nv), (Value.int .i64 ((k : Int) + 1)) = .int .i64 k' ∧ k' ≤ D ∧ Hid (xs'.map Nv.m = pickN ns od (od.take k')) ∧ Hid (xs'.length = m' ∧ m' = k') ∧ NOwn (w5.setCell ⟨ob, 0, none⟩ (.slice A5 (m + 1) c5)) (ob + 1) (.slice VA' m' vc') xs' ∧ Bk (w5.setCell ⟨ob, 0, none⟩ (.slice A5 (m + 1) c5)) ob 25 #[.slice VA' m' vc', .slice none 0 0] ∧ Below ob W1 (w5.setCell ⟨ob, 0, none⟩ (.slice A5 (m + 1) c5)) :=
          ⟨k + 1, m + 1, A5, c5, _, by go_num, by omega, Lib.hid hX.1, Lib.hid hX.2, H6.out.1, Q6.out, H6.out.2⟩
        first | exact X | exact ⟨_, _, _, _, _, _, _, _, _, _, _, _, _, _, _, _, _, _, _, _, _, _, _, _, _, _, X, rfl⟩
      case measure => simp [Go.RowKit.intOf]; omega
    · have hkN : k = D := by omega
      have hfin : xs.map Nv.m = pickN ns od od := by
        have := hm.out
        rwa [List.take_of_length_le (by rw [← HC.out.2]; omega)] at this
      have HNod := Lib.hid (And.intro ho (And.intro hfin hmx.out))
      have HSr := Lib.hid hSr
      have HB2 := Lib.hid (And.intro hb1 hB)
      have g0 := hSr.gb.two.2
      clear hkN hfin ho hSr hB hm hmx hb1
      go_wp2_with fail
      obtain ⟨W2, hW2⟩ : ∃ W2, W2 = wr := ⟨_, rfl⟩
      rw [← hW2] at HNod HSr HB2 hsz ⊢
      clear hW2 g0
      have HM9 := Lib.hid hsz
      clear hlt
      go_loopw [45] (fun i W => ∃ (k : Nat) (RA : Option Addr) (rc : Nat) (ys : List Rv), i = .int .i64 k ∧ k ≤ M ∧ Hid (ys = (rs.take k).map (fun r => (⟨r.s, newP l r.t⟩ : Rv))) ∧ ROwn W W2.heap.size (.slice RA k rc) ys ∧ Bk W ob 25 #[.slice VA m vc, .slice RA k rc] ∧ Kept (fun b => b = ob) W2 W) (fun i _ => M - (Go.RowKit.intOf i).toNat)
      case atStart => exact ⟨0, none, 0, [], rfl, Nat.zero_le _, Lib.hid rfl, ROwn.nil _ _, HB2.out.1, Kept.refl _ _⟩
      case round =>
        obtain ⟨k, RA, rc, ys, rfl, hk, hys, hro, hb1, hK⟩ := hrel
        have hobs : ob < wr.heap.size := hb1.lt
        by_cases hlt : k < M
        · have hkl : k < rs.length := by rw [← HN.out.2]; exact hlt
          obtain ⟨x, hx⟩ : ∃ x, x = rs[k] := ⟨_, rfl⟩
          have hbw : Below w.heap.size w wr := HSr.out.bl.trans (hK.below HSr.out.bl.size (fun c e => by rw [e]; have h1 := HOb.out; have h2 := HS.out.bl.size; omega))
          obtain ⟨ad, rfl, hc2, hc3⟩ : ∃ ad, A2 = some ad ∧ wr.cell? (ad.add (k * 2)) = some (.string x.s) ∧ wr.cell? ⟨(ad.add (k * 2)).block, (ad.add (k * 2)).off + 1, none⟩ = some (.int .i64 x.t) := by
            obtain ⟨ad, e, _, h1, h2⟩ := (HG.out.r.below hbw) k hkl
            exact ⟨ad, e, by rw [hx]; exact h1, by rw [hx]; exact h2⟩
          have hwf := HW.out.2 x (by rw [hx]; exact List.getElem_mem _)
          have hmp : MapIs wr (some mb) l := HSr.out.mp.kept hK (fun b e e2 => by injection e with e; have h1 := HOb.out; have h2 := HS.out.mp.lt b (by rw [e]); omega)
          have hnx : ys ++ [⟨x.s, newP l x.t⟩] = (rs.take (k + 1)).map (fun r => (⟨r.s, newP l r.t⟩ : Rv)) := by
            rw [take_snoc rs k hkl, List.map_append, ← hys.out, ← hx]; rfl
          have hyl : ys.length = k := by rw [hys.out, List.length_map, List.length_take]; omega
          obtain ⟨rs', rt⟩ := x
          simp only at hc2 hc3 hwf hnx
          have hlk := (map_below hmp (Gw.alloc wr (.cells #[.string rs', .int .i64 rt] 56))).look hwf
          obtain ⟨z, hz⟩ : ∃ z, z = (lookI l rt).getD 0 := ⟨_, rfl⟩
          rw [← hz] at hlk
          have HNx := Lib.hid (show ys ++ [⟨rs', z⟩] = (rs.take (k + 1)).map (fun r => (⟨r.s, newP l r.t⟩ : Rv)) ∧ ys.length = k from ⟨by rw [← hnx, hz]; rfl, hyl⟩)
          have p1 : (0 : Int) ≤ (k : Int) := by omega
          have p2 : (k : Int) < (M : Int) := by omega
          have e1 := hb1.two.2
          have e1f := hb1.free 1
          have HB3 := Lib.hid (And.intro hb1 (And.intro hro hK))
          have hcl := cell_lt hc2
          have hcl' : (ad.add (k * 2)).block < wr.heap.size := hcl
          clear hx hwf hmp hnx hyl hys hro hK hb1 hz hbw hkl hcl
          obtain ⟨i0, hi, hz0, hz1, hz2⟩ := info_parts infoR
          have HI := Lib.hid (And.intro hi (And.intro hz0 (And.intro hz1 hz2)))
          have b5 : Below wr.heap.size wr ((wr.alloc (.cells #[.string rs', .int .i64 z] 56)).alloc (.cells #[.string rs', .int .i64 z] 56)) := (Gw.alloc wr _).trans ((Gw.alloc _ _).mono (by simp))
          have n5 : Bk ((wr.alloc (.cells #[.string rs', .int .i64 z] 56)).alloc (.cells #[.string rs', .int .i64 z] 56)) (wr.heap.size + 1) 56 #[.string rs', .int .i64 z] := by
            have := Bk.new (wr.alloc (.cells #[.string rs', .int .i64 z] 56)) 56 #[.string rs', .int .i64 z]
            simpa using this
          have HB5 := Lib.hid b5
          have hrow := ownsRow_below HB3.out.2.1 b5
          rw [HNx.out.2] at hrow
          have hnew : ∀ (j : Nat) (u : Value), [Value.string rs', .int .i64 z][j]? = some u → ((wr.alloc (.cells #[.string rs', .int .i64 z] 56)).alloc (.cells #[.string rs', .int .i64 z] 56)).cell? ((⟨wr.heap.size + 1, 0, none⟩ : Addr).add j) = some u := fun j u hu => by
            have hj : j < 2 := by have := (List.getElem?_eq_some_iff.1 hu).1; simpa using this
            rw [addr_at, n5.cell]
            rcases (show j = 0 ∨ j = 1 by omega) with rfl | rfl
            · simpa using hu
            · simpa using hu
          have hone : ∀ u ∈ [Value.string rs', .int .i64 z], u.oneCell' = true := fun u hu => by
            simp only [List.mem_cons, List.not_mem_nil, or_false] at hu
            rcases hu with rfl | rfl <;> rfl
          have HRow := Lib.hid (And.intro hrow (And.intro hnew hone))
          have hwsz : W2.heap.size ≤ wr.heap.size := HB3.out.2.2.size
          have HWz := Lib.hid (show W2.heap.size ≤ ((wr.alloc (.cells #[.string rs', .int .i64 z] 56)).alloc (.cells #[.string rs', .int .i64 z] 56)).heap.size from Nat.le_trans hwsz b5.size)
          clear hi hz0 hz1 hz2 b5 n5 hrow hnew hone hwsz
          go_wp2_with (at_builtin; refine wp_appR 2 i0 Try.underlying23 HI.out.1 HI.out.2.1 HI.out.2.2.1 HI.out.2.2.2 (by rfl) (by decide) rfl (.tmp 55) (.tmp 57) rfl W2.heap.size _ k _ rfl HRow.out.1 ⟨wr.heap.size + 1, 0, none⟩ 1 1 [.string rs', .int .i64 z] rfl rfl HRow.out.2.1 HRow.out.2.2 (by unfold maxLen; omega) (by omega) HWz.out ?_; intro v5 w5 ho5 hb5 hg5 hv5; obtain ⟨A5, c5, rfl⟩ := own_form ho5; have hQ5 := (HB3.out.1.below HB5.out hobs).below hb5 HM9.out; have q50 := hQ5.two.2; have q5f := hQ5.free 1; have H5 := Lib.hid (And.intro ho5 (And.intro hb5 hQ5)); clear ho5 hb5 hg5 hv5 hQ5)
          have X : ∃ (k' : Nat) (RA' : Option Addr) (rc' : Nat) (ys' : List Rv), (Value.int .i64 ((k : Int) + 1)) = .int .i64 k' ∧ k' ≤ M ∧ Hid (ys' = (rs.take k').map (fun r => (⟨r.s, newP l r.t⟩ : Rv))) ∧ ROwn (w5.setCell ⟨ob, 1, none⟩ (.slice A5 (k + 1) c5)) W2.heap.size (.slice RA' k' rc') ys' ∧ Bk (w5.setCell ⟨ob, 1, none⟩ (.slice A5 (k + 1) c5)) ob 25 #[.slice VA m vc, .slice RA' k' rc'] ∧ Kept (fun b => b = ob) W2 (w5.setCell ⟨ob, 1, none⟩ (.slice A5 (k + 1) c5)) := by
            obtain ⟨h1, h2, h3⟩ := H5.out
            refine ⟨k + 1, A5, c5, ys ++ [⟨rs', z⟩], by go_num, by omega, Lib.hid HNx.out.1, ?_, h3.set 1 _, ((HB3.out.2.2.trans (Kept.of_below HB5.out _)).bel h2).trans (Kept.set w5 ob 1 _)⟩
            have h4 : ROwn w5 W2.heap.size (.slice A5 (k + 1) c5) (ys ++ [⟨rs', z⟩]) := by
              unfold ROwn
              rw [List.length_append, HNx.out.2, List.flatMap_append]
              exact h1
            refine World.ownsRow.kept h4 (grown_set w5 ⟨ob, 1, none⟩ _) ?_
            cases e : (Value.slice A5 (k + 1) c5).ownBlock with
            | none => exact .inl rfl
            | some c => exact .inr (fun e2 => by injection e2 with e2; have e3 : c = ob := e2; have h5 := (World.ownsRow.lt h4 c e).1; have := HM9.out; omega)
          clear q50 q5f H5 HRow HB3
          go_roundw
          case rel => first | exact X | exact ⟨_, _, _, _, _, _, _, _, _, _, _, _, _, _, _, _, _, X, rfl⟩
          case measure => simp [Go.RowKit.intOf]; omega
        · have hkM : k = M := by omega
          have hyf : ys = rs.map (fun r => (⟨r.s, newP l r.t⟩ : Rv)) := by
            rw [hys.out, List.take_of_length_le (by rw [← HN.out.2]; omega)]
          have hyl : ys.length = k := by rw [hyf, List.length_map, ← HN.out.2, hkM]
          have hbw : Below w.heap.size w wr := HSr.out.bl.trans (hK.below HSr.out.bl.size (fun c e => by rw [e]; have h1 := HOb.out; have h2 := HS.out.bl.size; omega))
          have h1 := HOb.out
          have h2 := HS.out.bl.size
          have h3 := HS.out.rb.lt
          have hrb : Bk wr (w.heap.size + 1) 25 #[.slice none 0 0, .slice none 0 0] := hK.bk HSr.out.rb (fun e => by omega)
          have hno : NOwn wr (ob + 1) (.slice VA m vc) xs := HNod.out.1.grown hK.gr (fun h => by have := blks_ge HNod.out.1 _ h; omega)
          have d0 := hrb.two.1
          have d1 := hrb.two.2
          have d2 := hrb.free 0
          have d3 := hrb.free 1
          have e0 := hb1.two.1
          have e1 := hb1.two.2
          have HF := Lib.hid (And.intro hno (And.intro hro (And.intro hbw (And.intro hyf (And.intro hyl (And.intro h1 (And.intro h2 (And.intro h3 hrb))))))))
          clear hno hro hbw hyf hyl h1 h2 h3 hrb hK hb1 hys hkM
          go_wp2_with fail
          obtain ⟨o1, o2, o4, o5, o6, o7, o8, o9, o10⟩ := HF.out
          have hbz : Bk ((wr.setCell ⟨w.heap.size + 1, 0, none⟩ (.slice VA m vc)).setCell ⟨w.heap.size + 1, 1, none⟩ (.slice RA k rc)) (w.heap.size + 1) 25 #[.slice VA m vc, .slice RA k rc] := by
            have h := (o10.set 0 (.slice VA m vc)).set 1 (.slice RA k rc)
            simpa using h
          refine bodyPost_ret (v := .agg #[.slice VA m vc, .slice RA k rc]) (canon_res hbz rfl) rfl ?_
          have hg0 : ∀ W : World, ∀ i u, W.grownBy (W.setCell ⟨w.heap.size + 1, i, none⟩ u) (some (w.heap.size + 1)) := fun W i u => grown_set W ⟨w.heap.size + 1, i, none⟩ u
          have hnin : w.heap.size + 1 ∉ (Value.slice VA m vc).ownBlock.toList ++ blksN xs := fun h => by
            have := blks_ge o1 _ h
            omega
          have r2 : (Value.slice RA k rc).ownBlock = none ∨ (Value.slice RA k rc).ownBlock ≠ some (w.heap.size + 1) := by
            cases e : (Value.slice RA k rc).ownBlock with
            | none => exact .inl rfl
            | some c => exact .inr (fun e2 => by injection e2 with e2; have h1 := (World.ownsRow.lt o2 c e).1; have h2 := HM9.out; omega)
          have h9 := HM9.out
          have hT1 : NOwn ((wr.setCell ⟨w.heap.size + 1, 0, none⟩ (.slice VA m vc)).setCell ⟨w.heap.size + 1, 1, none⟩ (.slice RA k rc)) w.heap.size (.slice VA xs.length vc) xs := by
            rw [HNod.out.2.2.1]
            exact ((o1.grown (hg0 _ _ _) hnin).grown (hg0 _ _ _) hnin).mono (by omega)
          have hT2 : ROwn ((wr.setCell ⟨w.heap.size + 1, 0, none⟩ (.slice VA m vc)).setCell ⟨w.heap.size + 1, 1, none⟩ (.slice RA k rc)) w.heap.size (.slice RA ys.length rc) ys := by
            rw [o6]
            exact ROwn.mono (World.ownsRow.kept (World.ownsRow.kept o2 (hg0 _ _ _) r2) (hg0 _ _ _) r2) (by omega)
          refine ⟨⟨VA, vc, RA, rc, xs, ys⟩, ?_, ⟨hT1.rows.1, hT2.rows.1, hT1.rows.2.2, hT2.rows.2.2⟩, HNod.out.2.1, ?_, ?_⟩
          · show _ = Ending.returned (Value.agg #[.slice VA xs.length vc, .slice RA ys.length rc])
            rw [HNod.out.2.2.1, o6]
          · show ys = _
            rw [o5]
            exact List.map_congr_left fun r _ => by rw [show newP l r.t = newO od r.t from HC.out.1.at_ _]
          · exact ((o4.setCell (p := ⟨w.heap.size + 1, 0, none⟩) (by show w.heap.size ≤ w.heap.size + 1; omega) _).setCell (p := ⟨w.heap.size + 1, 1, none⟩) (by show w.heap.size ≤ w.heap.size + 1; omega) _)
end Go.Proofs.Ytkkjnahjmomjgaa
/- The law's Few. Conditions: what a graph that came in has. -/
namespace Go.Proofs.Ytkkjnahjmomjgaa
set_option linter.unusedVariables false
set_option linter.unusedSimpArgs false
open Go.RowKit
def FewP (g : Gv) : Prop := g.n.length ≤ 60 ∧ g.r.length ≤ 80 ∧ (∀ x ∈ g.n, x.ps.length ≤ 70 ∧ x.bs.length ≤ 1100) ∧ ∀ r ∈ g.r, r.s.size ≤ 40
theorem FewP.small {g : Gv} (h : FewP g) : g.Small := ⟨by have := h.1; omega, by have := h.2.1; omega, fun x hx => by have := h.2.2.1 x hx; omega⟩
def FewQ (g : Gv) (w : World) (e : Ending) (w' : World) : Prop := ∃ b, e = .returned (.bool b) ∧ (b = true → FewP g) ∧ Below w.heap.size w w'
set_option maxHeartbeats 1000000
set_option maxRecDepth 100000
theorem few_c (w : World) (g : Gv) (hg : g.At w w.heap.size) : Calls Try.prog 8 #[g.v] w (FewQ g w) := by
  have HG := Lib.hid hg
  obtain ⟨A, ca, A2, ca2, ns, rs⟩ := g
  obtain ⟨N, hN⟩ : ∃ N, N = ns.length := ⟨_, rfl⟩
  obtain ⟨M, hM⟩ : ∃ M, M = rs.length := ⟨_, rfl⟩
  have HN := Lib.hid hN
  have HM := Lib.hid hM
  unfold Gv.v Gv.vn Gv.vr
  simp only
  rw [← hN, ← hM]
  clear hg hN hM
  go_enter Try.func8, Try.ntmps8
  by_cases hN60 : 60 < N
  · have t1 : (60 : Int) < (N : Int) := by omega
    go_wp2_with fail
    go_ret
    exact ⟨_, rfl, (fun h => nomatch h), (by repeat (first | with_reducible assumption | with_reducible exact Below.refl _ _ | with_reducible apply bdN | with_reducible apply Below.drew | with_reducible refine Below.alloc ?_ (by simp) _ | with_reducible refine Below.setCell ?_ (by simp) _))⟩
  have t1 : ¬ (60 : Int) < (N : Int) := by omega
  by_cases hM80 : 80 < M
  · have t2 : (80 : Int) < (M : Int) := by omega
    go_wp2_with fail
    go_ret
    exact ⟨_, rfl, (fun h => nomatch h), (by repeat (first | with_reducible assumption | with_reducible exact Below.refl _ _ | with_reducible apply bdN | with_reducible apply Below.drew | with_reducible refine Below.alloc ?_ (by simp) _ | with_reducible refine Below.setCell ?_ (by simp) _))⟩
  have t2 : ¬ (80 : Int) < (M : Int) := by omega
  go_wp2_with fail
  have q0 : (N : Int) ≤ 60 := by omega
  have q1 : (M : Int) ≤ 80 := by omega
  clear t1 t2 hN60 hM80
  go_loopw [3] (fun i W => ∃ k : Nat, i = .int .i64 k ∧ k ≤ N ∧ Hid (∀ x ∈ ns.take k, x.ps.length ≤ 70 ∧ x.bs.length ≤ 1100) ∧ Bk W w.heap.size 25 #[.slice A N ca, .slice A2 M ca2] ∧ Below w.heap.size w W) (fun i _ => N - (Go.RowKit.intOf i).toNat)
  case atStart => exact ⟨0, rfl, Nat.zero_le _, Lib.hid (fun x hx => by cases hx), Bk.new _ _ _, (by repeat (first | with_reducible assumption | with_reducible exact Below.refl _ _ | with_reducible apply bdN | with_reducible apply Below.drew | with_reducible refine Below.alloc ?_ (by simp) _ | with_reducible refine Below.setCell ?_ (by simp) _))⟩
  case round =>
    obtain ⟨k, rfl, hk, hck, hb1, hB⟩ := hrel
    have c0 := hb1.two.1
    have hsz := hb1.lt
    have c1 := hb1.two.2
    by_cases hlt : k < N
    · have hkl : k < ns.length := by rw [← HN.out]; exact hlt
      obtain ⟨x, hx⟩ : ∃ x, x = ns[k] := ⟨_, rfl⟩
      obtain ⟨ad, rfl, hc2, hc3, hxa⟩ : ∃ ad, A = some ad ∧ wr.cell? (ad.add (k * 2)) = some x.vp ∧ wr.cell? ⟨(ad.add (k * 2)).block, (ad.add (k * 2)).off + 1, none⟩ = some x.vd ∧ x.At wr wr.heap.size := by
        obtain ⟨ad, e, _, h1, h2, h3⟩ := (HG.out.n.below hB) k hkl
        exact ⟨ad, e, by rw [hx]; exact h1, by rw [hx]; exact h2, by rw [hx]; exact h3.more hB.size⟩
      have HS := Lib.hid (show x.ps.length ≤ 70 → x.bs.length ≤ 1100 → ∀ y ∈ ns.take (k + 1), y.ps.length ≤ 70 ∧ y.bs.length ≤ 1100 from fun h1 h2 y hy => by
        rw [List.take_succ_eq_append_getElem hkl, ← hx] at hy
        rcases List.mem_append.1 hy with hy | hy
        · exact hck.out y hy
        · rw [List.mem_singleton.1 hy]; exact ⟨h1, h2⟩)
      have p1 : (0 : Int) ≤ (k : Int) := by omega
      have p2 : (k : Int) < (N : Int) := by omega
      have HBB := Lib.hid (And.intro hb1 hB)
      clear hx hb1 hB hkl hxa hck
      obtain ⟨xA, xc, xD, xd, xps, xbs⟩ := x
      obtain ⟨xn, hxn⟩ : ∃ n, n = xps.length := ⟨_, rfl⟩
      obtain ⟨xm, hxm⟩ : ∃ n, n = xbs.length := ⟨_, rfl⟩
      unfold Nv.vp at hc2
      unfold Nv.vd at hc3
      simp only at hc2 hc3 HS
      rw [← hxn] at hc2 HS
      rw [← hxm] at hc3 HS
      clear hxn hxm
      by_cases g1 : 70 < xn
      · have t1 : (70 : Int) < (xn : Int) := by omega
        go_wp2_with fail
        go_ret
        exact ⟨_, rfl, (fun h => nomatch h), HBB.out.2⟩
      have t1 : ¬ (70 : Int) < (xn : Int) := by omega
      by_cases g2 : 1100 < xm
      · have t2 : (1100 : Int) < (xm : Int) := by omega
        go_wp2_with fail
        go_ret
        exact ⟨_, rfl, (fun h => nomatch h), HBB.out.2⟩
      have t2 : ¬ (1100 : Int) < (xm : Int) := by omega
      have HX := Lib.hid (HS.out (by omega) (by omega))
      clear HS g1 g2
      go_wp2_with fail
      go_roundw
      case rel => exact ⟨k + 1, by go_num, by omega, HX, HBB.out⟩
      case measure => (first | (simp [Go.RowKit.intOf]; done) | (simp [Go.RowKit.intOf]; omega))
    · have hkN : k = N := by omega
      have HF := Lib.hid (show ∀ x ∈ ns, x.ps.length ≤ 70 ∧ x.bs.length ≤ 1100 from by
        have := hck.out
        rwa [List.take_of_length_le (by rw [← HN.out]; omega)] at this)
      have HB1 := Lib.hid (And.intro hb1 hB)
      clear hkN hck hb1 hB
      go_wp2_with fail
      go_loopw [4] (fun i W => ∃ k : Nat, i = .int .i64 k ∧ k ≤ M ∧ Hid (∀ x ∈ rs.take k, x.s.size ≤ 40) ∧ Bk W w.heap.size 25 #[.slice A N ca, .slice A2 M ca2] ∧ Below w.heap.size w W) (fun i _ => M - (Go.RowKit.intOf i).toNat)
      case atStart => exact ⟨0, rfl, Nat.zero_le _, Lib.hid (fun x hx => by cases hx), HB1.out⟩
      case round =>
        obtain ⟨k, rfl, hk, hck, hb1, hB⟩ := hrel
        have c0 := hb1.two.1
        have hsz := hb1.lt
        have c1 := hb1.two.2
        have HB3 := Lib.hid (And.intro hb1 hB)
        by_cases hlt : k < M
        · have hkl : k < rs.length := by rw [← HM.out]; exact hlt
          obtain ⟨x, hx⟩ : ∃ x, x = rs[k] := ⟨_, rfl⟩
          obtain ⟨ad, rfl, hc2, hc3⟩ : ∃ ad, A2 = some ad ∧ wr.cell? (ad.add (k * 2)) = some (.string x.s) ∧ wr.cell? ⟨(ad.add (k * 2)).block, (ad.add (k * 2)).off + 1, none⟩ = some (.int .i64 x.t) := by
            obtain ⟨ad, e, _, h1, h2⟩ := (HG.out.r.below hB) k hkl
            exact ⟨ad, e, by rw [hx]; exact h1, by rw [hx]; exact h2⟩
          have HS := Lib.hid (show x.s.size ≤ 40 → ∀ y ∈ rs.take (k + 1), y.s.size ≤ 40 from fun h1 y hy => by
            rw [List.take_succ_eq_append_getElem hkl, ← hx] at hy
            rcases List.mem_append.1 hy with hy | hy
            · exact hck.out y hy
            · rw [List.mem_singleton.1 hy]; exact h1)
          have p1 : (0 : Int) ≤ (k : Int) := by omega
          have p2 : (k : Int) < (M : Int) := by omega
          clear hx hb1 hB hkl hck
          by_cases g1 : 40 < x.s.size
          · have t1 : (40 : Int) < (x.s.size : Int) := by omega
            go_wp2_with fail
            go_ret
            exact ⟨_, rfl, (fun h => nomatch h), HB3.out.2⟩
          have t1 : ¬ (40 : Int) < (x.s.size : Int) := by omega
          have HX := Lib.hid (HS.out (by omega))
          clear HS g1
          go_wp2_with fail
          go_roundw
          case rel => exact ⟨k + 1, by go_num, by omega, HX, HB3.out⟩
          case measure => (first | (simp [Go.RowKit.intOf]; done) | (simp [Go.RowKit.intOf]; omega))
        · have hkM : k = M := by omega
          have HE := Lib.hid (show FewP ⟨A, ca, A2, ca2, ns, rs⟩ from by
            refine ⟨by show ns.length ≤ 60; have := HN.out; omega, by show rs.length ≤ 80; have := HM.out; omega, HF.out, ?_⟩
            have := hck.out
            rwa [List.take_of_length_le (by rw [← HM.out]; omega)] at this)
          have HB4 := Lib.hid hB
          clear hkM hck hb1 hB HB3
          go_wp2_with fail
          go_ret
          exact ⟨_, rfl, fun _ => HE.out, HB4.out⟩
end Go.Proofs.Ytkkjnahjmomjgaa
/- Rows of findings: the cells (pure). No conditions. -/
namespace Go.Proofs.Ytkkjnahjmomjgaa
set_option linter.unusedVariables false
set_option linter.unusedSimpArgs false
open Go.RowKit Go.Maps
set_option maxHeartbeats 4000000
set_option maxRecDepth 100000
def fiC (p : Nat × ByteArray) : List Value := [.int .i64 (p.1 : Int), .string p.2]
def flatF (l : List (Nat × ByteArray)) : List Value := l.flatMap fiC
theorem flatF_app (a b : List (Nat × ByteArray)) : flatF (a ++ b) = flatF a ++ flatF b := List.flatMap_append ..
theorem info_parts {o : Option TypeInfo} {z : Option Value} {s b : Nat} (h : o.map (fun i => (i.zero, i.size, i.bytes)) = some (z, s, b)) : ∃ i, o = some i ∧ i.zero = z ∧ i.size = s ∧ i.bytes = b := by
  cases o with
  | none => cases h
  | some i => simp at h; exact ⟨i, rfl, h.1, h.2.1, h.2.2⟩
theorem Kept.rowF {S : Nat → Prop} {w w' : World} {E : TypeId} {K base n : Nat} {v : Value} {xs : List Value} (h : Kept S w w') (ho : w.ownsRow base E K v n xs) (hn : ∀ k, v.ownBlock = some k → ¬ S k) : w'.ownsRow base E K v n xs := by
  obtain ⟨h1, h2⟩ := ho
  refine ⟨h1, ?_⟩
  rcases h2 with h2 | ⟨g, cap, cur, e, hg, hh, r⟩
  · exact .inl h2
  · refine .inr ⟨g, cap, cur, e, hg, ?_, r⟩
    have hl : g < w.heap.size := by
      rcases Nat.lt_or_ge g w.heap.size with hl | hl
      · exact hl
      · rw [Array.getElem?_eq_none hl] at hh; cases hh
    rw [h.block g hl (hn g (by rw [e]; rfl))]; exact hh
end Go.Proofs.Ytkkjnahjmomjgaa
/- A row of findings (check.Finding) as a list; append; at. Conditions: lengths. -/
namespace Go.Proofs.Ytkkjnahjmomjgaa
set_option linter.unusedVariables false
set_option linter.unusedSimpArgs false
open Go.RowKit Go.Maps
set_option maxHeartbeats 400000
set_option maxRecDepth 100000
/-- A slice's address reads as pairs. -/
def RdF (w : World) (A : Option Addr) (l : List (Nat × ByteArray)) : Prop := ∀ j u, (flatF l)[j]? = some u → ∃ a, A = some a ∧ w.cell? (a.add j) = some u
section
variable {w w' : World} {base : Nat} {v : Value} {l : List (Nat × ByteArray)} {S : Nat → Prop}
theorem RdF.pre {A : Option Addr} (h : RdF w A l) (k : Nat) : RdF w A (l.take k) := by
  intro j u hu
  refine h j u ?_
  have e : flatF l = flatF (l.take k) ++ flatF (l.drop k) := by rw [← flatF_app, List.take_append_drop]
  rw [e, List.getElem?_append_left (List.getElem?_eq_some_iff.1 hu).1]
  exact hu
variable {ops : Array Oper} {rest : List Oper} {o : Oper} {a : Act} {Q : Exit → Act → World → Prop}
end
end Go.Proofs.Ytkkjnahjmomjgaa
/- The law's Of: the same graph in the other package's types. Conditions: lengths. -/
namespace Go.Proofs.Ytkkjnahjmomjgaa
set_option linter.unusedVariables false
set_option linter.unusedSimpArgs false
open Go.RowKit Go.Maps
theorem infoN7 : (Try.prog.info? 58).map (fun i => (i.zero, i.size, i.bytes)) = some (some (.agg #[.slice none 0 0, .slice none 0 0]), 2, 48) := by kernel_rfl
theorem infoR7 : (Try.prog.info? 59).map (fun i => (i.zero, i.size, i.bytes)) = some (some (.agg #[.string { data := #[] }, .int .i64 0]), 2, 24) := by kernel_rfl
theorem of_res {tmps : Array Value} {W : World} {g : Nat} {a b : Value} (hb : Bk W g 31 #[a, b]) (h2 : tmps.getD 2 undef = .pointer (some ⟨g, 0, none⟩)) :
    (results Try.f9 tmps).run Try.prog W = .ok (.agg #[a, b]) W := by
  have hl := run_loadVar_row (P := Try.prog) W g 31 31 #[a, b] (0, 0) _ hb Try.underlying31 rfl (by kernel_rfl)
  have h2' : tmps[2]?.getD undef = .pointer (some ⟨g, 0, none⟩) := by simpa using h2
  simp [results, Try.results9, h2', asAddr, hl]
theorem two_news {W : World} {q : Nat} {E : TypeId} {u0 u1 : Value} (h : Bk W q E #[u0, u1]) : ∀ (i : Nat) (u : Value), [u0, u1][i]? = some u → W.cell? ((⟨q, 0, none⟩ : Addr).add i) = some u := fun i u hu => by
  have hj : i < 2 := by have := (List.getElem?_eq_some_iff.1 hu).1; simpa using this
  rw [addr_at, h.cell]
  rcases (show i = 0 ∨ i = 1 by omega) with rfl | rfl
  · simpa using hu
  · simpa using hu
/-- What Of works on. -/
structure OfS (w W1 W : World) (q f k : Nat) (E : TypeId) (VA : Option Addr) (vc : Nat) (vals : List Value) (cs : Array Value) : Prop where
  row : W.ownsRow W1.heap.size E 2 (.slice VA k vc) k vals
  bk : Bk W q 31 cs
  kp : Kept (fun b => b = q) W1 W
  lt : q < W1.heap.size
theorem nrow_of {W : World} {base n c : Nat} {E : TypeId} {A : Option Addr} {xs : List Nv} (h : W.ownsRow base E 2 (.slice A n c) xs.length (xs.flatMap Nv.cs)) (hx : ∀ x ∈ xs, x.At W W.heap.size) : NRow W W.heap.size A xs := fun i hi => by
  obtain ⟨q, e, hb, hq, hc⟩ := own_cell2 (f := Nv.cs) (fun _ => rfl) h i hi
  have e0 := addr_at q (i * 2)
  refine ⟨_, e, hq, ?_, ?_, hx _ (List.getElem_mem _)⟩
  · rw [e0]; exact hc 0 (by decide)
  · rw [e0]; exact hc 1 (by decide)
theorem rrow_of {W : World} {base n c : Nat} {E : TypeId} {A : Option Addr} {xs : List Rv} (h : W.ownsRow base E 2 (.slice A n c) xs.length (xs.flatMap Rv.cs)) : RoRow W W.heap.size A xs := fun i hi => by
  obtain ⟨q, e, hb, hq, hc⟩ := own_cell2 (f := Rv.cs) (fun _ => rfl) h i hi
  have e0 := addr_at q (i * 2)
  refine ⟨_, e, hq, ?_, ?_⟩
  · rw [e0]; exact hc 0 (by decide)
  · rw [e0]; exact hc 1 (by decide)
theorem row_kept {a b : World} {base n c m : Nat} {E : TypeId} {A : Option Addr} {S : Nat → Prop} {cs : List Value} (hK : Kept S a b) (h : a.ownsRow base E 2 (.slice A n c) m cs) (hS : ∀ k, S k → k < base) : b.ownsRow base E 2 (.slice A n c) m cs := by
  obtain ⟨h1, h2⟩ := h
  refine ⟨h1, ?_⟩
  rcases h2 with h2 | ⟨g, cap, cur, e, hg, hh, r⟩
  · exact .inl h2
  · exact .inr ⟨g, cap, cur, e, hg, (hK.block g (Array.getElem?_eq_some_iff.1 hh).1 (fun hs => by have := hS g hs; omega)).trans hh, r⟩
set_option maxHeartbeats 4000000
set_option maxRecDepth 100000
theorem of_cS (w : World) (g : Gv) (hg : g.At w w.heap.size) (hs : g.Small) : Calls Try.prog 9 #[g.v] w fun e w' => ∃ g' : Gv, e = .returned g'.v ∧ g'.At w' w'.heap.size ∧ g'.n = g.n ∧ g'.r = g.r ∧ Below w.heap.size w w' := by
  have HG := Lib.hid hg
  obtain ⟨A, ca, A2, ca2, ns, rs⟩ := g
  obtain ⟨N, hN⟩ : ∃ N, N = ns.length := ⟨_, rfl⟩
  obtain ⟨M, hM⟩ : ∃ M, M = rs.length := ⟨_, rfl⟩
  have HN := Lib.hid (And.intro hN hM)
  have q0 : (N : Int) ≤ 1000000 := by rw [hN]; exact Int.ofNat_le.2 hs.1
  have q1 : (M : Int) ≤ 1000000 := by rw [hM]; exact Int.ofNat_le.2 hs.2.1
  unfold Gv.v Gv.vn Gv.vr
  simp only
  rw [← hN, ← hM]
  clear hg hs hN hM
  go_enter Try.func9, Try.ntmps9
  go_wp2_with fail
  obtain ⟨q, hq⟩ : ∃ q, q = w.heap.size + 1 + 1 := ⟨_, rfl⟩
  obtain ⟨W1, hW1⟩ : ∃ W1, W1 = ((w.alloc (.cells #[.slice A N ca, .slice A2 M ca2] 25)).alloc (.cells #[.slice none 0 0, .slice none 0 0] 31)).alloc (.cells #[.slice none 0 0, .slice none 0 0] 31) := ⟨_, rfl⟩
  have HW1 := Lib.hid (show Bk W1 w.heap.size 25 #[.slice A N ca, .slice A2 M ca2] ∧ Bk W1 (w.heap.size + 1) 31 #[.slice none 0 0, .slice none 0 0] ∧ Below w.heap.size w W1 ∧ q = w.heap.size + 2 from by
    rw [hW1]
    have k1 := Bk.new (w.alloc (.cells #[.slice A N ca, .slice A2 M ca2] 25)) 31 #[.slice none 0 0, .slice none 0 0]
    simp only [World.size_alloc] at k1
    exact ⟨((Bk.new w _ _).alloc _).alloc _, k1.alloc _, (Gw.alloc w _).trans (((Gw.alloc _ _).trans ((Gw.alloc _ _).mono (by simp))).mono (by simp)), hq⟩)
  have HX1 := Lib.hid (show Bk W1 q 31 #[.slice none 0 0, .slice none 0 0] from by
    have k1 := Bk.new ((w.alloc (.cells #[.slice A N ca, .slice A2 M ca2] 25)).alloc (.cells #[.slice none 0 0, .slice none 0 0] 31)) 31 #[.slice none 0 0, .slice none 0 0]
    simp only [World.size_alloc] at k1
    rw [hW1, hq]; exact k1)
  rw [← hq, ← hW1]
  clear hq hW1
  go_loopw [4] (fun i W => ∃ (k : Nat) (VA : Option Addr) (vc : Nat), i = .int .i64 k ∧ k ≤ N ∧ OfS w W1 W q 0 k 58 VA vc ((ns.take k).flatMap Nv.cs) #[.slice VA k vc, .slice none 0 0]) (fun i _ => N - (Go.RowKit.intOf i).toNat)
  case atStart => exact ⟨0, none, 0, rfl, Nat.zero_le _, ⟨by simp, .inl ⟨rfl, rfl⟩⟩, HX1.out, Kept.refl _ _, HX1.out.lt⟩
  case round =>
    obtain ⟨k, VA, vc, rfl, hk, hS⟩ := hrel
    have HS := Lib.hid hS
    clear hS
    by_cases hlt : k < N
    · have hkl : k < ns.length := by rw [← HN.out.1]; exact hlt
      obtain ⟨x, hx⟩ : ∃ x, x = ns[k] := ⟨_, rfl⟩
      obtain ⟨ad, rfl, had, hc2, hc3⟩ : ∃ ad, A = some ad ∧ ad.block < w.heap.size ∧ w.cell? (ad.add (k * 2)) = some x.vp ∧ w.cell? ⟨(ad.add (k * 2)).block, (ad.add (k * 2)).off + 1, none⟩ = some x.vd := by
        obtain ⟨ad, e, e2, h1, h2, h3⟩ := HG.out.n k hkl
        exact ⟨ad, e, e2, by rw [hx]; exact h1, by rw [hx]; exact h2⟩
      have HT := Lib.hid (show (ns.take (k + 1)).flatMap Nv.cs = (ns.take k).flatMap Nv.cs ++ [x.vp, x.vd] from by rw [take_snoc ns k hkl, List.flatMap_append, ← hx]; simp [Nv.cs])
      obtain ⟨xA, xc, xD, xd, xps, xbs⟩ := x
      obtain ⟨xn, hxn⟩ : ∃ n, n = xps.length := ⟨_, rfl⟩
      obtain ⟨xm, hxm⟩ : ∃ n, n = xbs.length := ⟨_, rfl⟩
      unfold Nv.vp at hc2
      unfold Nv.vd at hc3
      unfold Nv.vp Nv.vd at HT
      simp only at hc2 hc3 HT
      rw [← hxn] at hc2 HT
      rw [← hxm] at hc3 HT
      clear hxn hxm hx hkl
      have HCK := Lib.hid (fun (W : World) (hK : Kept (fun b => b = q) W1 W) => show W.cell? ⟨w.heap.size, 0, none⟩ = some (.slice (some ad) N ca) ∧ W.cell? (ad.add (k * 2)) = some (.slice xA xn xc) ∧ W.cell? ⟨(ad.add (k * 2)).block, (ad.add (k * 2)).off + 1, none⟩ = some (.slice xD xm xd) from by
        have hb := hK.bk HW1.out.1 (show ¬ (w.heap.size = q) from by have := HW1.out.2.2.2; omega)
        have hw : Below w.heap.size w W := HW1.out.2.2.1.trans (hK.below HW1.out.2.2.1.size (fun c e => by rw [e]; have := HW1.out.2.2.2; omega))
        exact ⟨hb.cell 0, (hw.cell (cell_lt hc2)).trans hc2, (hw.cell (cell_lt hc3)).trans hc3⟩)
      have p1 : (0 : Int) ≤ (k : Int) := by omega
      have p2 : (k : Int) < (N : Int) := by omega
      have hw0 : wr.drew.cell? ⟨q, 0, none⟩ = some (.slice VA k vc) ∧ wr.drew.cell? ⟨w.heap.size, 0, none⟩ = some (.slice (some ad) N ca) ∧ wr.drew.cell? (ad.add (k * 2)) = some (.slice xA xn xc) ∧ wr.drew.cell? ⟨(ad.add (k * 2)).block, (ad.add (k * 2)).off + 1, none⟩ = some (.slice xD xm xd) := ⟨(HS.out.bk.below (Gw.drew wr) HS.out.bk.lt).cell 0, HCK.out _ (HS.out.kp.trans (Kept.of_below (Gw.drew wr) _))⟩
      have hg0 := (HCK.out _ HS.out.kp).1
      clear hc2 hc3 had
      go_wp2_with fail
      clear hg0
      refine region_by_spineU 18 [15, 16, 18] [(0, 14, .pointer (some ⟨q, 0, none⟩)), (1, 15, .slice VA k vc), (2, 16, .pointer (some ⟨w.heap.size, 0, none⟩)), (3, 17, .slice (some ad) N ca), (4, 18, .int .i64 k), (5, 19, .pointer (some (ad.add (k * 2)))), (6, 20, .pointer (some (ad.add (k * 2)))), (7, 21, .slice xA xn xc), (8, 22, .pointer (some ⟨w.heap.size, 0, none⟩)), (9, 23, .slice (some ad) N ca), (10, 24, .int .i64 k), (11, 25, .pointer (some (ad.add (k * 2)))), (12, 26, .pointer (some ⟨(ad.add (k * 2)).block, (ad.add (k * 2)).off + 1, none⟩)), (13, 27, .slice xD xm xd), (14, 28, .agg #[.slice xA xn xc, .slice xD xm xd]), (17, 31, .pointer (some ⟨q, 0, none⟩))]
        (fun W => W.cell? ⟨q, 0, none⟩ = some (.slice VA k vc) ∧ W.cell? ⟨w.heap.size, 0, none⟩ = some (.slice (some ad) N ca) ∧ W.cell? (ad.add (k * 2)) = some (.slice xA xn xc) ∧ W.cell? ⟨(ad.add (k * 2)).block, (ad.add (k * 2)).off + 1, none⟩ = some (.slice xD xm xd)) (by kernel_rfl) (by kernel_rfl) (by kernel_rfl) (by kernel_rfl) (by kernel_rfl) (by kernel_rfl) (by kernel_rfl) hw0 ?_ ?_
      · intro y hy V ρ hV hρ hcst
        obtain ⟨k1, k2, k3, k4⟩ := hV
        have e1 : ρ (.tmp 1) = .pointer (some ⟨w.heap.size, 0, none⟩) := (hρ 1).trans (by kernel_rfl)
        have e3 : ρ (.tmp 3) = .pointer (some ⟨q, 0, none⟩) := (hρ 3).trans (by kernel_rfl)
        have e4 : ρ (.tmp 4) = .int .i64 k := (hρ 4).trans (by kernel_rfl)
        have e14 : ρ (.tmp 14) = .pointer (some ⟨q, 0, none⟩) := (hρ 14).trans (by kernel_rfl)
        have e15 : ρ (.tmp 15) = .slice VA k vc := (hρ 15).trans (by kernel_rfl)
        have e16 : ρ (.tmp 16) = .pointer (some ⟨w.heap.size, 0, none⟩) := (hρ 16).trans (by kernel_rfl)
        have e17 : ρ (.tmp 17) = .slice (some ad) N ca := (hρ 17).trans (by kernel_rfl)
        have e18 : ρ (.tmp 18) = .int .i64 k := (hρ 18).trans (by kernel_rfl)
        have e19 : ρ (.tmp 19) = .pointer (some (ad.add (k * 2))) := (hρ 19).trans (by kernel_rfl)
        have e20 : ρ (.tmp 20) = .pointer (some (ad.add (k * 2))) := (hρ 20).trans (by kernel_rfl)
        have e21 : ρ (.tmp 21) = .slice xA xn xc := (hρ 21).trans (by kernel_rfl)
        have e22 : ρ (.tmp 22) = .pointer (some ⟨w.heap.size, 0, none⟩) := (hρ 22).trans (by kernel_rfl)
        have e23 : ρ (.tmp 23) = .slice (some ad) N ca := (hρ 23).trans (by kernel_rfl)
        have e24 : ρ (.tmp 24) = .int .i64 k := (hρ 24).trans (by kernel_rfl)
        have e25 : ρ (.tmp 25) = .pointer (some (ad.add (k * 2))) := (hρ 25).trans (by kernel_rfl)
        have e26 : ρ (.tmp 26) = .pointer (some ⟨(ad.add (k * 2)).block, (ad.add (k * 2)).off + 1, none⟩) := (hρ 26).trans (by kernel_rfl)
        have e27 : ρ (.tmp 27) = .slice xD xm xd := (hρ 27).trans (by kernel_rfl)
        clear hρ
        simp only [List.mem_cons, List.not_mem_nil, or_false] at hy
        rcases hy with rfl | rfl | rfl | rfl | rfl | rfl | rfl | rfl | rfl | rfl | rfl | rfl | rfl | rfl | rfl | rfl
        all_goals
          refine ⟨_, rfl, ?_⟩
          go_simp
          try rfl
      simp only [putA, putD, Act.put, List.setIfInBounds_toArray, List.set_cons_zero, List.set_cons_succ]
      refine spineU_list rfl rfl rfl ?_
      go_wp2_with fail
      have b3 : Below wr.heap.size wr (wr.drew.alloc (.cells #[.slice xA xn xc, .slice xD xm xd] 58)) := (Gw.drew wr).trans ((Gw.alloc wr.drew _).mono (Gw.drew wr).size)
      have E3 : Bk (wr.drew.alloc (.cells #[.slice xA xn xc, .slice xD xm xd] 58)) wr.heap.size 58 #[.slice xA xn xc, .slice xD xm xd] := Bk.new wr.drew 58 #[.slice xA xn xc, .slice xD xm xd]
      have q3 := HS.out.bk.below b3 HS.out.bk.lt
      have HW3 := Lib.hid (show (wr.drew.alloc (.cells #[.slice xA xn xc, .slice xD xm xd] 58)).cell? ⟨q, 0, none⟩ = some (.slice VA k vc) ∧ (wr.drew.alloc (.cells #[.slice xA xn xc, .slice xD xm xd] 58)).cell? ⟨w.heap.size, 0, none⟩ = some (.slice (some ad) N ca) ∧ (wr.drew.alloc (.cells #[.slice xA xn xc, .slice xD xm xd] 58)).cell? (ad.add (k * 2)) = some (.slice xA xn xc) ∧ (wr.drew.alloc (.cells #[.slice xA xn xc, .slice xD xm xd] 58)).cell? ⟨(ad.add (k * 2)).block, (ad.add (k * 2)).off + 1, none⟩ = some (.slice xD xm xd) from ⟨q3.cell 0, HCK.out _ (HS.out.kp.trans (Kept.of_below b3 _))⟩)
      refine ⟨rfl, (by first | exact HW3.out | exact fun _ => HW3.out), ?_⟩
      refine spineU_list rfl rfl rfl ?_
      obtain ⟨i0, hi, hz0, hz1, hz2⟩ := info_parts infoN7
      have ho3 := ownsRow_below HS.out.row b3
      refine wp_appR 2 i0 Try.underlying28 hi hz0 hz1 hz2 (by rfl) (by decide) rfl (.tmp 15) (.tmp 29) rfl W1.heap.size _ k _ rfl ho3 ⟨wr.heap.size, 0, none⟩ 1 1 [.slice xA xn xc, .slice xD xm xd] rfl rfl (two_news E3) (fun u hu => ?_) (by unfold maxLen; omega) (by omega) (Nat.le_trans HS.out.kp.size b3.size) ?_
      · simp only [List.mem_cons, List.not_mem_nil, or_false] at hu
        rcases hu with rfl | rfl <;> rfl
      intro v5 w5 ho5 hb5 hg5 hv5
      obtain ⟨A5, c5, rfl⟩ := own_form ho5
      have hkp : Kept (fun b => b = q) W1 w5 := (HS.out.kp.trans (Kept.of_below b3 _)).bel hb5
      have hq5 := q3.below hb5 HS.out.lt
      have HW5 := Lib.hid (show w5.cell? ⟨q, 0, none⟩ = some (.slice VA k vc) ∧ w5.cell? ⟨w.heap.size, 0, none⟩ = some (.slice (some ad) N ca) ∧ w5.cell? (ad.add (k * 2)) = some (.slice xA xn xc) ∧ w5.cell? ⟨(ad.add (k * 2)).block, (ad.add (k * 2)).off + 1, none⟩ = some (.slice xD xm xd) from ⟨hq5.cell 0, HCK.out _ hkp⟩)
      have F5 := hq5.free 0
      have C5 := hq5.cell 0
      have H5 := Lib.hid (And.intro ho5 (And.intro hkp hq5))
      clear ho3 ho5 hb5 hg5 hv5 hi hz0 hz1 hz2 b3 E3 q3 hkp hq5 hw0
      refine ⟨rfl, (by first | exact HW5.out | exact fun _ => HW5.out), ?_⟩
      refine spineU_list rfl rfl rfl ?_
      go_wp2_with fail
      refine ⟨rfl, trivial, ?_⟩
      unfold SpineU
      have X : ∃ (k' : Nat) (VA' : Option Addr) (vc' : Nat), (Value.int .i64 ((k : Int) + 1)) = .int .i64 k' ∧ k' ≤ N ∧ OfS w W1 (w5.setCell ⟨q, 0, none⟩ (.slice A5 (k + 1) c5)) q 0 k' 58 VA' vc' ((ns.take k').flatMap Nv.cs) #[.slice VA' k' vc', .slice none 0 0] := by
        obtain ⟨h1, h2, h3⟩ := H5.out
        refine ⟨k + 1, A5, c5, by go_num, by omega, ?_, h3.set 0 _, h2.trans (Kept.set w5 q 0 _), HS.out.lt⟩
        rw [HT.out]
        refine World.ownsRow.kept h1 (grown_set w5 ⟨q, 0, none⟩ _) ?_
        cases e : (Value.slice A5 (k + 1) c5).ownBlock with
        | none => exact .inl rfl
        | some c => exact .inr (fun e2 => by injection e2 with e2; have e3 : c = q := e2; have h5 := (World.ownsRow.lt h1 c e).1; have := HS.out.lt; omega)
      clear F5 C5 H5 HS
      go_wp2_with fail
      go_roundw
      case rel => first | exact X | exact ⟨_, _, _, _, _, _, _, _, _, _, _, _, _, _, _, _, _, _, X, rfl⟩
      case measure => simp [Go.RowKit.intOf]; omega
    · have hkN : k = N := by omega
      subst hkN
      have HR := Lib.hid (show wr.ownsRow W1.heap.size 58 2 (.slice VA k vc) ns.length (ns.flatMap Nv.cs) ∧ q < W1.heap.size from by
        have h := HS.out.row
        rw [List.take_of_length_le (by rw [← HN.out.1]; exact Nat.le_refl _)] at h
        rw [← HN.out.1]
        exact ⟨h, HS.out.lt⟩)
      have HW2 := Lib.hid (show Bk wr w.heap.size 25 #[.slice A k ca, .slice A2 M ca2] ∧ Bk wr (w.heap.size + 1) 31 #[.slice none 0 0, .slice none 0 0] ∧ Below w.heap.size w wr ∧ q = w.heap.size + 2 from by
        obtain ⟨h1, h2, h3, h4⟩ := HW1.out
        have hK := HS.out.kp
        exact ⟨hK.bk h1 (by omega), hK.bk h2 (by omega), h3.trans (hK.below h3.size (fun c e => by rw [e]; omega)), h4⟩)
      have HX2 := Lib.hid HS.out.bk
      have e0 := HW2.out.1.two.1
      obtain ⟨B0, hB0⟩ : ∃ B0, B0 = W1.heap.size := ⟨_, rfl⟩
      rw [← hB0] at HR
      clear HS HW1 HX1 hB0
      go_wp2_with fail
      clear e0
      obtain ⟨W1, hW1⟩ : ∃ W1, W1 = wr := ⟨_, rfl⟩
      rw [← hW1] at HR HW2 HX2 ⊢
      have HW1 := Lib.hid HW2.out
      clear HW2 hW1 hlt hk
      obtain ⟨NA, hNA⟩ : ∃ NA, NA = VA := ⟨_, rfl⟩
      obtain ⟨nc, hnc⟩ : ∃ nc, nc = vc := ⟨_, rfl⟩
      rw [← hNA, ← hnc] at HR HX2
      clear hNA hnc
      obtain ⟨N, hNk⟩ : ∃ N, N = k := ⟨_, rfl⟩
      rw [← hNk] at HR HX2 HW1 HN q0 ⊢
      clear hNk
      go_loopw [5] (fun i W => ∃ (k : Nat) (VA : Option Addr) (vc : Nat), i = .int .i64 k ∧ k ≤ M ∧ OfS w W1 W q 1 k 59 VA vc ((rs.take k).flatMap Rv.cs) #[.slice NA N nc, .slice VA k vc]) (fun i _ => M - (Go.RowKit.intOf i).toNat)
      case atStart => exact ⟨0, none, 0, rfl, Nat.zero_le _, ⟨by simp, .inl ⟨rfl, rfl⟩⟩, HX2.out, Kept.refl _ _, HX2.out.lt⟩
      case round =>
        obtain ⟨k, VA, vc, rfl, hk, hS⟩ := hrel
        have HS := Lib.hid hS
        clear hS
        by_cases hlt : k < M
        · have hkl : k < rs.length := by rw [← HN.out.2]; exact hlt
          obtain ⟨x, hx⟩ : ∃ x, x = rs[k] := ⟨_, rfl⟩
          obtain ⟨ad, rfl, had, hc2, hc3⟩ : ∃ ad, A2 = some ad ∧ ad.block < w.heap.size ∧ w.cell? (ad.add (k * 2)) = some (.string x.s) ∧ w.cell? ⟨(ad.add (k * 2)).block, (ad.add (k * 2)).off + 1, none⟩ = some (.int .i64 x.t) := by
            obtain ⟨ad, e, e2, h1, h2⟩ := HG.out.r k hkl
            exact ⟨ad, e, e2, by rw [hx]; exact h1, by rw [hx]; exact h2⟩
          have HT := Lib.hid (show (rs.take (k + 1)).flatMap Rv.cs = (rs.take k).flatMap Rv.cs ++ [.string x.s, .int .i64 x.t] from by rw [take_snoc rs k hkl, List.flatMap_append, ← hx]; simp [Rv.cs])
          obtain ⟨rs2, rt⟩ := x
          simp only at hc2 hc3 HT
          clear hx hkl
          have HCK := Lib.hid (fun (W : World) (hK : Kept (fun b => b = q) W1 W) => show W.cell? ⟨w.heap.size, 1, none⟩ = some (.slice (some ad) M ca2) ∧ W.cell? (ad.add (k * 2)) = some (.string rs2) ∧ W.cell? ⟨(ad.add (k * 2)).block, (ad.add (k * 2)).off + 1, none⟩ = some (.int .i64 rt) from by
            have hb := hK.bk HW1.out.1 (show ¬ (w.heap.size = q) from by have := HW1.out.2.2.2; omega)
            have hw : Below w.heap.size w W := HW1.out.2.2.1.trans (hK.below HW1.out.2.2.1.size (fun c e => by rw [e]; have := HW1.out.2.2.2; omega))
            exact ⟨hb.cell 1, (hw.cell (cell_lt hc2)).trans hc2, (hw.cell (cell_lt hc3)).trans hc3⟩)
          have p1 : (0 : Int) ≤ (k : Int) := by omega
          have p2 : (k : Int) < (M : Int) := by omega
          have hw0 : wr.drew.cell? ⟨q, 1, none⟩ = some (.slice VA k vc) ∧ wr.drew.cell? ⟨w.heap.size, 1, none⟩ = some (.slice (some ad) M ca2) ∧ wr.drew.cell? (ad.add (k * 2)) = some (.string rs2) ∧ wr.drew.cell? ⟨(ad.add (k * 2)).block, (ad.add (k * 2)).off + 1, none⟩ = some (.int .i64 rt) := ⟨(HS.out.bk.below (Gw.drew wr) HS.out.bk.lt).cell 1, HCK.out _ (HS.out.kp.trans (Kept.of_below (Gw.drew wr) _))⟩
          have hg0 := (HCK.out _ HS.out.kp).1
          clear hc2 hc3 had
          go_wp2_with fail
          clear hg0
          refine region_by_spineU 18 [15, 16, 18] [(0, 39, .pointer (some ⟨q, 1, none⟩)), (1, 40, .slice VA k vc), (2, 41, .pointer (some ⟨w.heap.size, 1, none⟩)), (3, 42, .slice (some ad) M ca2), (4, 43, .int .i64 k), (5, 44, .pointer (some (ad.add (k * 2)))), (6, 45, .pointer (some (ad.add (k * 2)))), (7, 46, .string rs2), (8, 47, .pointer (some ⟨w.heap.size, 1, none⟩)), (9, 48, .slice (some ad) M ca2), (10, 49, .int .i64 k), (11, 50, .pointer (some (ad.add (k * 2)))), (12, 51, .pointer (some ⟨(ad.add (k * 2)).block, (ad.add (k * 2)).off + 1, none⟩)), (13, 52, .int .i64 rt), (14, 53, .agg #[.string rs2, .int .i64 rt]), (17, 56, .pointer (some ⟨q, 1, none⟩))]
            (fun W => W.cell? ⟨q, 1, none⟩ = some (.slice VA k vc) ∧ W.cell? ⟨w.heap.size, 1, none⟩ = some (.slice (some ad) M ca2) ∧ W.cell? (ad.add (k * 2)) = some (.string rs2) ∧ W.cell? ⟨(ad.add (k * 2)).block, (ad.add (k * 2)).off + 1, none⟩ = some (.int .i64 rt)) (by kernel_rfl) (by kernel_rfl) (by kernel_rfl) (by kernel_rfl) (by kernel_rfl) (by kernel_rfl) (by kernel_rfl) hw0 ?_ ?_
          · intro y hy V ρ hV hρ hcst
            obtain ⟨k1, k2, k3, k4⟩ := hV
            have e1 : ρ (.tmp 1) = .pointer (some ⟨w.heap.size, 0, none⟩) := (hρ 1).trans (by kernel_rfl)
            have e3 : ρ (.tmp 3) = .pointer (some ⟨q, 0, none⟩) := (hρ 3).trans (by kernel_rfl)
            have e5 : ρ (.tmp 5) = .int .i64 k := (hρ 5).trans (by kernel_rfl)
            have e39 : ρ (.tmp 39) = .pointer (some ⟨q, 1, none⟩) := (hρ 39).trans (by kernel_rfl)
            have e40 : ρ (.tmp 40) = .slice VA k vc := (hρ 40).trans (by kernel_rfl)
            have e41 : ρ (.tmp 41) = .pointer (some ⟨w.heap.size, 1, none⟩) := (hρ 41).trans (by kernel_rfl)
            have e42 : ρ (.tmp 42) = .slice (some ad) M ca2 := (hρ 42).trans (by kernel_rfl)
            have e43 : ρ (.tmp 43) = .int .i64 k := (hρ 43).trans (by kernel_rfl)
            have e44 : ρ (.tmp 44) = .pointer (some (ad.add (k * 2))) := (hρ 44).trans (by kernel_rfl)
            have e45 : ρ (.tmp 45) = .pointer (some (ad.add (k * 2))) := (hρ 45).trans (by kernel_rfl)
            have e46 : ρ (.tmp 46) = .string rs2 := (hρ 46).trans (by kernel_rfl)
            have e47 : ρ (.tmp 47) = .pointer (some ⟨w.heap.size, 1, none⟩) := (hρ 47).trans (by kernel_rfl)
            have e48 : ρ (.tmp 48) = .slice (some ad) M ca2 := (hρ 48).trans (by kernel_rfl)
            have e49 : ρ (.tmp 49) = .int .i64 k := (hρ 49).trans (by kernel_rfl)
            have e50 : ρ (.tmp 50) = .pointer (some (ad.add (k * 2))) := (hρ 50).trans (by kernel_rfl)
            have e51 : ρ (.tmp 51) = .pointer (some ⟨(ad.add (k * 2)).block, (ad.add (k * 2)).off + 1, none⟩) := (hρ 51).trans (by kernel_rfl)
            have e52 : ρ (.tmp 52) = .int .i64 rt := (hρ 52).trans (by kernel_rfl)
            clear hρ
            simp only [List.mem_cons, List.not_mem_nil, or_false] at hy
            rcases hy with rfl | rfl | rfl | rfl | rfl | rfl | rfl | rfl | rfl | rfl | rfl | rfl | rfl | rfl | rfl | rfl
            all_goals
              refine ⟨_, rfl, ?_⟩
              go_simp
              try rfl
          simp only [putA, putD, Act.put, List.setIfInBounds_toArray, List.set_cons_zero, List.set_cons_succ]
          refine spineU_list rfl rfl rfl ?_
          go_wp2_with fail
          have b3 : Below wr.heap.size wr (wr.drew.alloc (.cells #[.string rs2, .int .i64 rt] 59)) := (Gw.drew wr).trans ((Gw.alloc wr.drew _).mono (Gw.drew wr).size)
          have E3 : Bk (wr.drew.alloc (.cells #[.string rs2, .int .i64 rt] 59)) wr.heap.size 59 #[.string rs2, .int .i64 rt] := Bk.new wr.drew 59 #[.string rs2, .int .i64 rt]
          have q3 := HS.out.bk.below b3 HS.out.bk.lt
          have HW3 := Lib.hid (show (wr.drew.alloc (.cells #[.string rs2, .int .i64 rt] 59)).cell? ⟨q, 1, none⟩ = some (.slice VA k vc) ∧ (wr.drew.alloc (.cells #[.string rs2, .int .i64 rt] 59)).cell? ⟨w.heap.size, 1, none⟩ = some (.slice (some ad) M ca2) ∧ (wr.drew.alloc (.cells #[.string rs2, .int .i64 rt] 59)).cell? (ad.add (k * 2)) = some (.string rs2) ∧ (wr.drew.alloc (.cells #[.string rs2, .int .i64 rt] 59)).cell? ⟨(ad.add (k * 2)).block, (ad.add (k * 2)).off + 1, none⟩ = some (.int .i64 rt) from ⟨q3.cell 1, HCK.out _ (HS.out.kp.trans (Kept.of_below b3 _))⟩)
          refine ⟨rfl, (by first | exact HW3.out | exact fun _ => HW3.out), ?_⟩
          refine spineU_list rfl rfl rfl ?_
          obtain ⟨i0, hi, hz0, hz1, hz2⟩ := info_parts infoR7
          have ho3 := ownsRow_below HS.out.row b3
          refine wp_appR 2 i0 Try.underlying29 hi hz0 hz1 hz2 (by rfl) (by decide) rfl (.tmp 40) (.tmp 54) rfl W1.heap.size _ k _ rfl ho3 ⟨wr.heap.size, 0, none⟩ 1 1 [.string rs2, .int .i64 rt] rfl rfl (two_news E3) (fun u hu => ?_) (by unfold maxLen; omega) (by omega) (Nat.le_trans HS.out.kp.size b3.size) ?_
          · simp only [List.mem_cons, List.not_mem_nil, or_false] at hu
            rcases hu with rfl | rfl <;> rfl
          intro v5 w5 ho5 hb5 hg5 hv5
          obtain ⟨A5, c5, rfl⟩ := own_form ho5
          have hkp : Kept (fun b => b = q) W1 w5 := (HS.out.kp.trans (Kept.of_below b3 _)).bel hb5
          have hq5 := q3.below hb5 HS.out.lt
          have HW5 := Lib.hid (show w5.cell? ⟨q, 1, none⟩ = some (.slice VA k vc) ∧ w5.cell? ⟨w.heap.size, 1, none⟩ = some (.slice (some ad) M ca2) ∧ w5.cell? (ad.add (k * 2)) = some (.string rs2) ∧ w5.cell? ⟨(ad.add (k * 2)).block, (ad.add (k * 2)).off + 1, none⟩ = some (.int .i64 rt) from ⟨hq5.cell 1, HCK.out _ hkp⟩)
          have F5 := hq5.free 1
          have C5 := hq5.cell 1
          have H5 := Lib.hid (And.intro ho5 (And.intro hkp hq5))
          clear ho3 ho5 hb5 hg5 hv5 hi hz0 hz1 hz2 b3 E3 q3 hkp hq5 hw0
          refine ⟨rfl, (by first | exact HW5.out | exact fun _ => HW5.out), ?_⟩
          refine spineU_list rfl rfl rfl ?_
          go_wp2_with fail
          refine ⟨rfl, trivial, ?_⟩
          unfold SpineU
          have X : ∃ (k' : Nat) (VA' : Option Addr) (vc' : Nat), (Value.int .i64 ((k : Int) + 1)) = .int .i64 k' ∧ k' ≤ M ∧ OfS w W1 (w5.setCell ⟨q, 1, none⟩ (.slice A5 (k + 1) c5)) q 1 k' 59 VA' vc' ((rs.take k').flatMap Rv.cs) #[.slice NA N nc, .slice VA' k' vc'] := by
            obtain ⟨h1, h2, h3⟩ := H5.out
            refine ⟨k + 1, A5, c5, by go_num, by omega, ?_, h3.set 1 _, h2.trans (Kept.set w5 q 1 _), HS.out.lt⟩
            rw [HT.out]
            refine World.ownsRow.kept h1 (grown_set w5 ⟨q, 1, none⟩ _) ?_
            cases e : (Value.slice A5 (k + 1) c5).ownBlock with
            | none => exact .inl rfl
            | some c => exact .inr (fun e2 => by injection e2 with e2; have e3 : c = q := e2; have h5 := (World.ownsRow.lt h1 c e).1; have := HS.out.lt; omega)
          clear F5 C5 H5 HS
          go_wp2_with fail
          go_roundw
          case rel => first | exact X | exact ⟨_, _, _, _, _, _, _, _, _, _, _, _, _, _, _, _, _, _, X, rfl⟩
          case measure => simp [Go.RowKit.intOf]; omega
        · have hkM : k = M := by omega
          subst hkM
          have hK := HS.out.kp
          have HR2 := Lib.hid (show wr.ownsRow W1.heap.size 59 2 (.slice VA k vc) rs.length (rs.flatMap Rv.cs) from by
            have h := HS.out.row
            rw [List.take_of_length_le (by rw [← HN.out.2]; exact Nat.le_refl _)] at h
            rw [← HN.out.2]
            exact h)
          obtain ⟨h1, h2, h3, h4⟩ := HW1.out
          have hrb := hK.bk h2 (show ¬ (w.heap.size + 1 = q) from by omega)
          have hgb := hK.bk h1 (show ¬ (w.heap.size = q) from by omega)
          have hbw : Below w.heap.size w wr := h3.trans (hK.below h3.size (fun c e => by rw [e]; omega))
          have g0 := hgb.two.2
          have d0 := hrb.two.1
          have d1 := hrb.two.2
          have d2 := hrb.free 0
          have d3 := hrb.free 1
          have e0 := HS.out.bk.two.1
          have e1 := HS.out.bk.two.2
          have HF := Lib.hid (And.intro hrb (And.intro hbw (And.intro h4 (show W1.heap.size > w.heap.size + 1 from h2.lt))))
          clear h1 h2 h3 h4 hrb hgb hbw hK
          go_wp2_with fail
          obtain ⟨o1, o2, o3, o4⟩ := HF.out
          have hbz : Bk ((wr.setCell ⟨w.heap.size + 1, 0, none⟩ (.slice NA N nc)).setCell ⟨w.heap.size + 1, 1, none⟩ (.slice VA k vc)) (w.heap.size + 1) 31 #[.slice NA N nc, .slice VA k vc] := by
            have h := (o1.set 0 (.slice NA N nc)).set 1 (.slice VA k vc)
            simpa using h
          refine bodyPost_ret (v := .agg #[.slice NA N nc, .slice VA k vc]) (of_res hbz rfl) rfl ?_
          have hKf : Kept (fun b => b = w.heap.size + 1) wr ((wr.setCell ⟨w.heap.size + 1, 0, none⟩ (.slice NA N nc)).setCell ⟨w.heap.size + 1, 1, none⟩ (.slice VA k vc)) := (Kept.set wr _ 0 _).trans (Kept.set _ _ 1 _)
          have hbf : Below w.heap.size w ((wr.setCell ⟨w.heap.size + 1, 0, none⟩ (.slice NA N nc)).setCell ⟨w.heap.size + 1, 1, none⟩ (.slice VA k vc)) := o2.trans (hKf.below o2.size (fun c e => by rw [e]; omega))
          have r1 := row_kept hKf (row_kept HS.out.kp HR.out.1 (fun c e => by rw [e]; exact HR.out.2)) (fun c e => by rw [e]; have := HR.out.2; omega)
          have r2 := row_kept hKf HR2.out (fun c e => by rw [e]; exact o4)
          refine ⟨⟨NA, nc, VA, vc, ns, rs⟩, ?_, ⟨nrow_of r1 (fun x hx => ?_), rrow_of r2, (own_len r1).2, (own_len r2).2⟩, rfl, rfl, hbf⟩
          · show Ending.returned _ = Ending.returned (Value.agg #[.slice NA ns.length nc, .slice VA rs.length vc])
            rw [← HN.out.1, ← HN.out.2]
          · obtain ⟨i, hi, rfl⟩ := List.mem_iff_getElem.1 hx
            obtain ⟨_, _, _, _, _, h⟩ := HG.out.n i hi
            exact h.up hbf
theorem of_c (w : World) (g : Gv) (hg : g.At w w.heap.size) (hs : FewP g) : Calls Try.prog 9 #[g.v] w fun e w' => ∃ g' : Gv, e = .returned g'.v ∧ g'.At w' w'.heap.size ∧ g'.n = g.n ∧ g'.r = g.r ∧ Below w.heap.size w w' := of_cS w g hg hs.small
end Go.Proofs.Ytkkjnahjmomjgaa
/- The reference's Equal at graphs. Conditions: lengths. -/
namespace Go.Proofs.Ytkkjnahjmomjgaa
set_option linter.unusedVariables false
set_option linter.unusedSimpArgs false
open Go.RowKit Go.Maps
set_option maxHeartbeats 4000000
set_option maxRecDepth 100000
end Go.Proofs.Ytkkjnahjmomjgaa
/- How an argument that is a row of structs is opened. No conditions. -/
namespace Go.Proofs.Ytkkjnahjmomjgaa
set_option linter.unusedVariables false
set_option linter.unusedSimpArgs false
open Go.ChangeShapes Go.WideShapes Go.ChangeAt Go.RowKit
section
variable {H : Type} {enc : TypeId × Value → H} {P : Program} {w : World} {base : Nat} {spare : Nat → Bool} {held : Bool} {r : Reach} {b0 : Nat}
theorem cell_int {k : IntKind} {n : Nat} {t : TypeId} {u : Value} {y : DataW H × List MemPlace} (ht : P.underlying t = some (.int k)) (h : DataW.trod enc P w base spare held n t [u] = some y) : ∃ a, u = .int k a ∧ (Lit.int k a).wf = true := by
  obtain ⟨a, h, _, hw⟩ := DataW.trod_int ht h
  exact ⟨a, by simpa using h, hw⟩
/-- A cell that is a slice of numbers. -/
theorem cell_nums {α : Type} (f : α → Value) {k : IntKind} {n : Nat} {t e : TypeId} {u : Value} {y : DataW H × List MemPlace} (hf : ∀ z : Int, (Lit.int k z).wf = true → ∃ a, f a = .int k z) (ht : P.underlying t = some (.slice e)) (he : P.underlying e = some (.int k)) (hc : P.cellsOf e = 1) (h : DataW.trod enc P w base spare held n t [u] = some y) :
    ∃ (A : Option Addr) (bs : List α) (c : Nat), u = .slice A bs.length c ∧ bs.length ≤ c ∧ c ≤ maxLen ∧ Rd f w w.heap.size A bs := by
  rcases open_ints ht he hc h with ⟨hcs, _⟩ | ⟨x, l, c, zs, hcs, _, hl, hm, hz, _, hcell, hwz⟩
  · have hu : u = .slice none 0 0 := by simpa using hcs
    exact ⟨none, [], 0, hu, Nat.le_refl _, by simp [maxLen], Rd.nil⟩
  · have hu : u = .slice (some x) l c := by simpa using hcs
    have hlen : l ≤ zs.length := by rw [hz]; split <;> omega
    have : ∃ bs : List α, bs.length = l ∧ ∀ j (h : j < bs.length), f bs[j] = .int k (zs.getD j 0) := by
      have hk : ∀ m, m ≤ l → ∃ bs : List α, bs.length = m ∧ ∀ j (h : j < bs.length), f bs[j] = .int k (zs.getD j 0) := by
        intro m
        induction m with
        | zero => intro _; exact ⟨[], rfl, fun j h => absurd h (by simp)⟩
        | succ m ih =>
          intro hm
          obtain ⟨bs, hb, hp⟩ := ih (by omega)
          obtain ⟨a, ha⟩ := hf (zs.getD m 0) (hwz _ (by rw [List.getD_eq_getElem?_getD, List.getElem?_eq_getElem (by omega)]; exact List.getElem_mem _))
          refine ⟨bs ++ [a], by simp [hb], fun j hj => ?_⟩
          rw [List.getElem_append]
          split
          · exact hp j _
          · have : j = m := by simp at hj; omega
            subst this
            simpa using ha
      exact hk l (Nat.le_refl _)
    obtain ⟨bs, hb, hp⟩ := this
    refine ⟨some x, bs, c, by rw [hb]; exact hu, by omega, hm, fun j hj => ?_⟩
    have hc1 := hcell j (by omega)
    have hbk := cell_lt hc1
    rw [add_block] at hbk
    exact ⟨x, rfl, hbk, by rw [hc1, hp j hj]⟩
end
theorem choose_lst {α : Type} {p : Nat → α → Prop} : ∀ n : Nat, (∀ r, r < n → ∃ x, p r x) → ∃ l : List α, l.length = n ∧ ∀ r (h : r < l.length), p r l[r]
  | 0, _ => ⟨[], rfl, fun r h => absurd h (by simp)⟩
  | n + 1, h => by
    obtain ⟨l, hl, hp⟩ := choose_lst n fun r hr => h r (by omega)
    obtain ⟨x, hx⟩ := h n (by omega)
    refine ⟨l ++ [x], by simp [hl], fun r hr => ?_⟩
    rw [List.getElem_append]
    split
    · exact hp r _
    · have : r = n := by simp at hr; omega
      subst this
      simpa using hx
theorem num8 : ∀ z : Int, (Lit.int .u8 z).wf = true → ∃ a : BitVec 8, b8 a = .int .u8 z := fun z h => ⟨_, by unfold b8; rw [← wfu8 h]⟩
set_option maxRecDepth 100000
theorem add_far (a : Addr) (m j : Nat) : a.add (m + (j + 1)) = ⟨(a.add m).block, (a.add m).off + (j + 1), none⟩ := by
  rw [← add_add']
  rfl
/-- One of CodeBack's items. -/
structure Itm where
  op : Int
  u : BitVec 64
  i : BitVec 64
  ba : Option Addr
  bb : List (BitVec 8)
  bc : Nat
  wa : Option Addr
  ww : List (BitVec 64)
  wc : Nat
structure ItmAt (W : World) (B : Nat) (ad : Addr) (k : Nat) (x : Itm) : Prop where
  blk : ad.block < B
  op : W.cell? (ad.add (k * 5)) = some (.int .i64 x.op)
  u : W.cell? ⟨(ad.add (k * 5)).block, (ad.add (k * 5)).off + 1, none⟩ = some (.int .u64 (U64 x.u))
  i : W.cell? ⟨(ad.add (k * 5)).block, (ad.add (k * 5)).off + 2, none⟩ = some (.int .i64 (I64 x.i))
  b : W.cell? ⟨(ad.add (k * 5)).block, (ad.add (k * 5)).off + 3, none⟩ = some (.slice x.ba x.bb.length x.bc)
  w : W.cell? ⟨(ad.add (k * 5)).block, (ad.add (k * 5)).off + 4, none⟩ = some (.slice x.wa x.ww.length x.wc)
  bbc : x.bb.length ≤ x.bc
  wwc : x.ww.length ≤ x.wc
  br : Rd b8 W B x.ba x.bb
  wr : Rd (fun a => Value.int .u64 (U64 a)) W B x.wa x.ww
def Its (W : World) (B : Nat) (A : Option Addr) (l : List Itm) : Prop := ∀ k (h : k < l.length), ∃ ad, A = some ad ∧ ItmAt W B ad k l[k]
/-- One of MemPlays' acts. -/
structure Ac where
  op : Int
  at_ : Int
  fr : Int
  n : Int
  u : BitVec 64
  ba : Option Addr
  bb : List (BitVec 8)
  bc : Nat
structure AcAt (W : World) (B : Nat) (ad : Addr) (k : Nat) (x : Ac) : Prop where
  blk : ad.block < B
  op : W.cell? (ad.add (k * 6)) = some (.int .i64 x.op)
  at_ : W.cell? ⟨(ad.add (k * 6)).block, (ad.add (k * 6)).off + 1, none⟩ = some (.int .i64 x.at_)
  fr : W.cell? ⟨(ad.add (k * 6)).block, (ad.add (k * 6)).off + 2, none⟩ = some (.int .i64 x.fr)
  n : W.cell? ⟨(ad.add (k * 6)).block, (ad.add (k * 6)).off + 3, none⟩ = some (.int .i64 x.n)
  u : W.cell? ⟨(ad.add (k * 6)).block, (ad.add (k * 6)).off + 4, none⟩ = some (.int .u64 (U64 x.u))
  b : W.cell? ⟨(ad.add (k * 6)).block, (ad.add (k * 6)).off + 5, none⟩ = some (.slice x.ba x.bb.length x.bc)
  w0 : (Lit.int .i64 x.op).wf = true
  w1 : (Lit.int .i64 x.at_).wf = true
  w2 : (Lit.int .i64 x.fr).wf = true
  w3 : (Lit.int .i64 x.n).wf = true
  bbc : x.bb.length ≤ x.bc
  bcm : x.bc ≤ maxLen
  br : Rd b8 W B x.ba x.bb
def Acs (W : World) (B : Nat) (A : Option Addr) (l : List Ac) : Prop := ∀ k (h : k < l.length), ∃ ad, A = some ad ∧ AcAt W B ad k l[k]
theorem Acs.below {W W' : World} {B : Nat} {A : Option Addr} {l : List Ac} (h : Acs W B A l) (hb : Below B W W') : Acs W' B A l := fun k hk => by
  obtain ⟨ad, e, m⟩ := h k hk
  have hbk : (ad.add (k * 6)).block < B := by rw [add_block]; exact m.blk
  have c : ∀ j, W'.cell? ⟨(ad.add (k * 6)).block, (ad.add (k * 6)).off + j, none⟩ = W.cell? ⟨(ad.add (k * 6)).block, (ad.add (k * 6)).off + j, none⟩ := fun j => hb.cell (p := ⟨(ad.add (k * 6)).block, (ad.add (k * 6)).off + j, none⟩) hbk
  exact ⟨ad, e, m.blk, (hb.cell hbk).trans m.op, (c _).trans m.at_, (c _).trans m.fr, (c _).trans m.n, (c _).trans m.u, (c _).trans m.b, m.w0, m.w1, m.w2, m.w3, m.bbc, m.bcm, m.br.below hb⟩
end Go.Proofs.Ytkkjnahjmomjgaa
/- How an argument that is a graph is opened. No conditions. -/
namespace Go.Proofs.Ytkkjnahjmomjgaa
set_option linter.unusedVariables false
set_option linter.unusedSimpArgs false
open Go.ChangeShapes Go.WideShapes Go.ChangeAt Go.RowKit
set_option maxRecDepth 100000
section
variable {H : Type} {enc : TypeId × Value → H} {P : Program} {w : World} {base : Nat} {spare : Nat → Bool} {held : Bool}
/-- A cell that is a slice of structs of one-cell fields. -/
theorem cell_rows {t e : TypeId} {fs : Array Field} {K n0 : Nat} {u : Value} {y : DataW H × List MemPlace} (ht : P.underlying t = some (.slice e)) (he : P.underlying e = some (.struct fs)) (hone : Go.Deep.oneCellFields P fs = true) (hC : P.cellsOf e = K) (hK : fs.size = K)
    (hf : DataW.trod enc P w base spare held n0 t [u] = some y) :
    ∃ (A : Option Addr) (n c : Nat), u = .slice A n c ∧ n ≤ c ∧ c ≤ maxLen ∧ ∀ i, i < n → ∃ ad m, A = some ad ∧ ∀ j f, fs[j]? = some f → ∃ u y, w.cell? (ad.add (i * K + j)) = some u ∧ DataW.trod enc P w base spare held m f.type [u] = some y := by
  rcases Go.Deep.open_slice ht hf with ⟨hcs, _⟩ | ⟨a, len', cap', m, n', D, Pl, hcs, hb, hl, hm, hmm, hx, hrow⟩
  · have hu : u = .slice none 0 0 := by simpa using hcs
    exact ⟨none, 0, 0, hu, Nat.le_refl _, by simp [maxLen], fun i hi => absurd hi (by omega)⟩
  · have hu : u = .slice (some a) len' cap' := by simpa using hcs
    refine ⟨some a, len', cap', hu, hl, hm, fun i hi => ?_⟩
    obtain ⟨cs', h1, h2⟩ := hrow i (by rw [hmm]; split <;> omega)
    obtain ⟨_, hlen, hcell⟩ := World.cells?_some h1
    obtain ⟨xs, n2, _, _, hl2, hlen2, hfs⟩ := DataW.trod_struct he h2
    refine ⟨a, n2, rfl, fun j f hj => ?_⟩
    obtain ⟨ho, h1c⟩ := Go.Deep.hone_of hone j f hj
    have hjk : j < fs.size := (Array.getElem?_eq_some_iff.1 hj).1
    have hjl : j < cs'.length := by omega
    have hfj := hfs j f hj
    have e1 : (cs'.drop f.offset).take (P.cellsOf f.type) = [cs'[j]] := by
      rw [ho, h1c, List.drop_eq_getElem_cons hjl]
      rfl
    rw [e1, List.getElem?_eq_getElem (by omega)] at hfj
    refine ⟨cs'[j], _, ?_, hfj⟩
    have := hcell j (by omega)
    rw [List.getElem?_eq_getElem hjl, add_add', hC] at this
    exact this
theorem cell_str {n : Nat} {t : TypeId} {u : Value} {y : DataW H × List MemPlace} (ht : P.underlying t = some .string) (h : DataW.trod enc P w base spare held n t [u] = some y) : ∃ s : ByteArray, u = .string s ∧ s.size ≤ maxLen := by
  obtain ⟨s, h, _, hw⟩ := DataW.trod_string ht h
  exact ⟨s, by simpa using h, hw⟩
end
theorem numI : ∀ z : Int, (Lit.int .i64 z).wf = true → ∃ a : Int, iV a = .int .i64 z := fun z _ => ⟨z, rfl⟩
/-- A graph that came in. -/
structure GvOk (W : World) (g : Gv) : Prop where
  at_ : g.At W W.heap.size
  cn : g.c ≤ maxLen
  cr : g.c2 ≤ maxLen
  nd : ∀ x ∈ g.n, x.c ≤ maxLen ∧ x.d ≤ maxLen
  st : ∀ r ∈ g.r, r.s.size ≤ maxLen ∧ (Lit.int .i64 r.t).wf = true
theorem GvOk.up {W W' : World} {g : Gv} (h : GvOk W g) (hb : Below W.heap.size W W') : GvOk W' g := ⟨h.at_.up hb, h.cn, h.cr, h.nd, h.st⟩
section
variable {H : Type} {enc : TypeId × Value → H} {W : World} {base : Nat} {sp : Nat → Bool} {hd : Bool}
theorem cell_nodes {n0 : Nat} {u : Value} {y : DataW H × List MemPlace} (h : DataW.trod enc Try.prog W base sp hd n0 22 [u] = some y) : ∃ (A : Option Addr) (xs : List Nv) (c : Nat), u = .slice A xs.length c ∧ xs.length ≤ c ∧ c ≤ maxLen ∧ NRow W W.heap.size A xs ∧ ∀ x ∈ xs, x.c ≤ maxLen ∧ x.d ≤ maxLen := by
  have he := Try.underlying54
  obtain ⟨A, n, c, rfl, hn, hm, hrow⟩ := cell_rows (K := 2) Try.underlying22 he (by kernel_rfl) (by kernel_rfl) rfl h
  obtain ⟨l, hl, hp⟩ := choose_lst (α := Nv) (p := fun i x => ∃ ad, A = some ad ∧ ad.block < W.heap.size ∧ W.cell? (ad.add (i * 2)) = some x.vp ∧ W.cell? ⟨(ad.add (i * 2)).block, (ad.add (i * 2)).off + 1, none⟩ = some x.vd ∧ x.At W W.heap.size ∧ x.c ≤ maxLen ∧ x.d ≤ maxLen) n (fun k hk => by
    obtain ⟨ad, m, e, hf⟩ := hrow k hk
    obtain ⟨u0, y0, c0, t0⟩ := hf 0 _ rfl
    obtain ⟨u1, y1, c1, t1⟩ := hf 1 _ rfl
    obtain ⟨A0, b0, n0, rfl, h0, hm0, r0⟩ := cell_nums iV (k := .i64) (e := 3) numI (by kernel_rfl) (by kernel_rfl) (by kernel_rfl) t0
    obtain ⟨A1, b1, n1, rfl, h1, hm1, r1⟩ := cell_nums b8 (k := .u8) (e := 5) num8 (by kernel_rfl) (by kernel_rfl) (by kernel_rfl) t1
    have hb := cell_lt c0
    rw [add_block] at hb
    exact ⟨⟨A0, n0, A1, n1, b0, b1⟩, ad, e, hb, c0, (congrArg W.cell? (add_far ad (k * 2) 0)).symm.trans c1, ⟨r0, r1, h0, h1⟩, hm0, hm1⟩)
  subst hl
  refine ⟨A, l, c, rfl, hn, hm, fun i hi => ?_, fun x hx => ?_⟩
  · obtain ⟨ad, h1, h2, h3, h4, h5, _⟩ := hp i hi
    exact ⟨ad, h1, h2, h3, h4, h5⟩
  · obtain ⟨i, hi, rfl⟩ := List.mem_iff_getElem.1 hx
    obtain ⟨ad, h1, h2, h3, h4, h5, h6⟩ := hp i hi
    exact h6
theorem cell_roots {n0 : Nat} {u : Value} {y : DataW H × List MemPlace} (h : DataW.trod enc Try.prog W base sp hd n0 23 [u] = some y) : ∃ (A : Option Addr) (xs : List Rv) (c : Nat), u = .slice A xs.length c ∧ xs.length ≤ c ∧ c ≤ maxLen ∧ RoRow W W.heap.size A xs ∧ ∀ x ∈ xs, x.s.size ≤ maxLen ∧ (Lit.int .i64 x.t).wf = true := by
  have he := Try.underlying56
  obtain ⟨A, n, c, rfl, hn, hm, hrow⟩ := cell_rows (K := 2) Try.underlying23 he (by kernel_rfl) (by kernel_rfl) rfl h
  obtain ⟨l, hl, hp⟩ := choose_lst (α := Rv) (p := fun i x => ∃ ad, A = some ad ∧ ad.block < W.heap.size ∧ W.cell? (ad.add (i * 2)) = some (.string x.s) ∧ W.cell? ⟨(ad.add (i * 2)).block, (ad.add (i * 2)).off + 1, none⟩ = some (.int .i64 x.t) ∧ x.s.size ≤ maxLen ∧ (Lit.int .i64 x.t).wf = true) n (fun k hk => by
    obtain ⟨ad, m, e, hf⟩ := hrow k hk
    obtain ⟨u0, y0, c0, t0⟩ := hf 0 _ rfl
    obtain ⟨u1, y1, c1, t1⟩ := hf 1 _ rfl
    obtain ⟨s, rfl, hs⟩ := cell_str (by kernel_rfl) t0
    obtain ⟨z, rfl, hz⟩ := cell_int (k := .i64) (by kernel_rfl) t1
    have hb := cell_lt c0
    rw [add_block] at hb
    exact ⟨⟨s, z⟩, ad, e, hb, c0, (congrArg W.cell? (add_far ad (k * 2) 0)).symm.trans c1, hs, hz⟩)
  subst hl
  refine ⟨A, l, c, rfl, hn, hm, fun i hi => ?_, fun x hx => ?_⟩
  · obtain ⟨ad, h1, h2, h3, h4, _⟩ := hp i hi
    exact ⟨ad, h1, h2, h3, h4⟩
  · obtain ⟨i, hi, rfl⟩ := List.mem_iff_getElem.1 hx
    obtain ⟨ad, h1, h2, h3, h4, h6⟩ := hp i hi
    exact h6
theorem open_str_Graph {r : Reach} {b0 : Nat} {v : Value} {d : DataW H} {p : List MemPlace}
    (hv : Value.okWide Try.prog W r b0 25 v) (h : DataW.Trod enc Try.prog W base sp hd 25 v d p) : ∃ g : Gv, v = g.v ∧ GvOk W g := by
  obtain ⟨cs, rfl, hsz⟩ := okWide_struct Try.underlying25 hv
  obtain ⟨l⟩ := cs
  obtain ⟨fuel, hf⟩ := h
  have k2 : Try.prog.cellsOf 25 = 2 := by kernel_rfl
  have kN : Try.prog.cellsOf 22 = 1 := by kernel_rfl
  have kR : Try.prog.cellsOf 23 = 1 := by kernel_rfl
  obtain ⟨xs, m, _, hx, hl, hlen, hg⟩ := DataW.trod_struct Try.underlying25 hf
  have hl2 : l.length = 2 := by
    have := hl.trans k2
    simpa [Value.cells] using this
  match l, hl2 with
  | [c0, c1], _ =>
    match xs, hlen with
    | [y0, y1], _ =>
      have g0 := hg 0 _ rfl
      have g1 := hg 1 _ rfl
      simp only [Value.cells, kN, kR, List.drop_zero, List.drop_succ_cons, List.take_succ_cons, List.take_zero, List.getElem?_cons_zero, List.getElem?_cons_succ] at g0 g1
      obtain ⟨A0, x0, n0, rfl, h0, hm0, r0, w0⟩ := cell_nodes g0
      obtain ⟨A1, x1, n1, rfl, h1, hm1, r1, w1⟩ := cell_roots g1
      exact ⟨⟨A0, n0, A1, n1, x0, x1⟩, rfl, ⟨⟨r0, r1, h0, h1⟩, hm0, hm1, w0, w1⟩⟩
end
end Go.Proofs.Ytkkjnahjmomjgaa
