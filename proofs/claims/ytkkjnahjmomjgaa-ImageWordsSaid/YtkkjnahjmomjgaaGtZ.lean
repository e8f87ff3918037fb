/- The law's Of: the same graph in the other package's types. Conditions: lengths. -/
import Derived.Test.YtkkjnahjmomjgaaGtA
import Derived.Test.YtkkjnahjmomjgaaGrO
import Derived.Test.YtkkjnahjmomjgaaRegU
import Derived.Test.YtkkjnahjmomjgaaHdL
import Derived.Test.YtkkjnahjmomjgaaFiA
import Derived.Test.YtkkjnahjmomjgaaMmA
namespace Go.Proofs.Ytkkjnahjmomjgaa
set_option linter.unusedVariables false
set_option linter.unusedSimpArgs false
open Go.RowKit Go.Maps
theorem Kept.bel {S : Nat → Prop} {a b c : World} (h : Kept S a b) (hb : Below a.heap.size b c) : Kept S a c :=
  ⟨hb.os.trans h.os, hb.tape.trans h.tape, hb.output.trans h.output, Nat.le_trans h.size hb.size, fun i hi hn => (hb.block i hi).trans (h.block i hi hn)⟩
theorem infoN7 : (Try.prog.info? 58).map (fun i => (i.zero, i.size, i.bytes)) = some (some (.agg #[.slice none 0 0, .slice none 0 0]), 2, 48) := by kernel_rfl
theorem infoR7 : (Try.prog.info? 59).map (fun i => (i.zero, i.size, i.bytes)) = some (some (.agg #[.string { data := #[] }, .int .i64 0]), 2, 24) := by kernel_rfl
theorem of_res {tmps : Array Value} {W : World} {g : Nat} {a b : Value} (hb : Bk W g 31 #[a, b]) (h2 : tmps.getD 2 undef = .pointer (some ⟨g, 0, none⟩)) :
    (results Try.f9 tmps).run Try.prog W = .ok (.agg #[a, b]) W := by
  have hl := run_loadVar_row (P := Try.prog) W g 31 31 #[a, b] (0, 0) _ hb Try.underlying31 rfl (by kernel_rfl)
  have h2' : tmps[2]?.getD undef = .pointer (some ⟨g, 0, none⟩) := by simpa using h2
  simp [results, Try.results9, h2', asAddr, hl]
theorem two_news {W : World} {q : Nat} {E : TypeId} {u0 u1 : Value} (h : Bk W q E #[u0, u1]) : ∀ (i : Nat) (u : Value), [u0, u1][i]? = some u → W.cell? ((⟨q, 0, none⟩ : Addr).add i) = some u := fun i u hu => by
  have hj : i < 2 := by have := (List.getElem?_eq_some_iff.1 hu).1; simpa using this
  rw [addr_at, h.cell]
  rcases (show i = 0 ∨ i = 1 by omega) with rfl | rfl
  · simpa using hu
  · simpa using hu
/-- What Of works on. -/
structure OfS (w W1 W : World) (q f k : Nat) (E : TypeId) (VA : Option Addr) (vc : Nat) (vals : List Value) (cs : Array Value) : Prop where
  row : W.ownsRow W1.heap.size E 2 (.slice VA k vc) k vals
  bk : Bk W q 31 cs
  kp : Kept (fun b => b = q) W1 W
  lt : q < W1.heap.size
theorem nrow_of {W : World} {base n c : Nat} {E : TypeId} {A : Option Addr} {xs : List Nv} (h : W.ownsRow base E 2 (.slice A n c) xs.length (xs.flatMap Nv.cs)) (hx : ∀ x ∈ xs, x.At W W.heap.size) : NRow W W.heap.size A xs := fun i hi => by
  obtain ⟨q, e, hb, hq, hc⟩ := own_cell2 (f := Nv.cs) (fun _ => rfl) h i hi
  have e0 := addr_at q (i * 2)
  refine ⟨_, e, hq, ?_, ?_, hx _ (List.getElem_mem _)⟩
  · rw [e0]; exact hc 0 (by decide)
  · rw [e0]; exact hc 1 (by decide)
theorem rrow_of {W : World} {base n c : Nat} {E : TypeId} {A : Option Addr} {xs : List Rv} (h : W.ownsRow base E 2 (.slice A n c) xs.length (xs.flatMap Rv.cs)) : RoRow W W.heap.size A xs := fun i hi => by
  obtain ⟨q, e, hb, hq, hc⟩ := own_cell2 (f := Rv.cs) (fun _ => rfl) h i hi
  have e0 := addr_at q (i * 2)
  refine ⟨_, e, hq, ?_, ?_⟩
  · rw [e0]; exact hc 0 (by decide)
  · rw [e0]; exact hc 1 (by decide)
theorem row_kept {a b : World} {base n c m : Nat} {E : TypeId} {A : Option Addr} {S : Nat → Prop} {cs : List Value} (hK : Kept S a b) (h : a.ownsRow base E 2 (.slice A n c) m cs) (hS : ∀ k, S k → k < base) : b.ownsRow base E 2 (.slice A n c) m cs := by
  obtain ⟨h1, h2⟩ := h
  refine ⟨h1, ?_⟩
  rcases h2 with h2 | ⟨g, cap, cur, e, hg, hh, r⟩
  · exact .inl h2
  · exact .inr ⟨g, cap, cur, e, hg, (hK.block g (Array.getElem?_eq_some_iff.1 hh).1 (fun hs => by have := hS g hs; omega)).trans hh, r⟩
set_option maxHeartbeats 4000000
set_option maxRecDepth 100000
theorem of_cS (w : World) (g : Gv) (hg : g.At w w.heap.size) (hs : g.Small) : Calls Try.prog 9 #[g.v] w fun e w' => ∃ g' : Gv, e = .returned g'.v ∧ g'.At w' w'.heap.size ∧ g'.n = g.n ∧ g'.r = g.r ∧ Below w.heap.size w w' := by
  have HG := Lib.hid hg
  obtain ⟨A, ca, A2, ca2, ns, rs⟩ := g
  obtain ⟨N, hN⟩ : ∃ N, N = ns.length := ⟨_, rfl⟩
  obtain ⟨M, hM⟩ : ∃ M, M = rs.length := ⟨_, rfl⟩
  have HN := Lib.hid (And.intro hN hM)
  have q0 : (N : Int) ≤ 1000000 := by rw [hN]; exact Int.ofNat_le.2 hs.1
  have q1 : (M : Int) ≤ 1000000 := by rw [hM]; exact Int.ofNat_le.2 hs.2.1
  unfold Gv.v Gv.vn Gv.vr
  simp only
  rw [← hN, ← hM]
  clear hg hs hN hM
  go_enter Try.func9, Try.ntmps9
  go_wp2_with fail
  obtain ⟨q, hq⟩ : ∃ q, q = w.heap.size + 1 + 1 := ⟨_, rfl⟩
  obtain ⟨W1, hW1⟩ : ∃ W1, W1 = ((w.alloc (.cells #[.slice A N ca, .slice A2 M ca2] 25)).alloc (.cells #[.slice none 0 0, .slice none 0 0] 31)).alloc (.cells #[.slice none 0 0, .slice none 0 0] 31) := ⟨_, rfl⟩
  have HW1 := Lib.hid (show Bk W1 w.heap.size 25 #[.slice A N ca, .slice A2 M ca2] ∧ Bk W1 (w.heap.size + 1) 31 #[.slice none 0 0, .slice none 0 0] ∧ Below w.heap.size w W1 ∧ q = w.heap.size + 2 from by
    rw [hW1]
    have k1 := Bk.new (w.alloc (.cells #[.slice A N ca, .slice A2 M ca2] 25)) 31 #[.slice none 0 0, .slice none 0 0]
    simp only [World.size_alloc] at k1
    exact ⟨((Bk.new w _ _).alloc _).alloc _, k1.alloc _, (Gw.alloc w _).trans (((Gw.alloc _ _).trans ((Gw.alloc _ _).mono (by simp))).mono (by simp)), hq⟩)
  have HX1 := Lib.hid (show Bk W1 q 31 #[.slice none 0 0, .slice none 0 0] from by
    have k1 := Bk.new ((w.alloc (.cells #[.slice A N ca, .slice A2 M ca2] 25)).alloc (.cells #[.slice none 0 0, .slice none 0 0] 31)) 31 #[.slice none 0 0, .slice none 0 0]
    simp only [World.size_alloc] at k1
    rw [hW1, hq]; exact k1)
  rw [← hq, ← hW1]
  clear hq hW1
  go_loopw [4] (fun i W => ∃ (k : Nat) (VA : Option Addr) (vc : Nat), i = .int .i64 k ∧ k ≤ N ∧ OfS w W1 W q 0 k 58 VA vc ((ns.take k).flatMap Nv.cs) #[.slice VA k vc, .slice none 0 0]) (fun i _ => N - (Go.RowKit.intOf i).toNat)
  case atStart => exact ⟨0, none, 0, rfl, Nat.zero_le _, ⟨by simp, .inl ⟨rfl, rfl⟩⟩, HX1.out, Kept.refl _ _, HX1.out.lt⟩
  case round =>
    obtain ⟨k, VA, vc, rfl, hk, hS⟩ := hrel
    have HS := Lib.hid hS
    clear hS
    by_cases hlt : k < N
    · have hkl : k < ns.length := by rw [← HN.out.1]; exact hlt
      obtain ⟨x, hx⟩ : ∃ x, x = ns[k] := ⟨_, rfl⟩
      obtain ⟨ad, rfl, had, hc2, hc3⟩ : ∃ ad, A = some ad ∧ ad.block < w.heap.size ∧ w.cell? (ad.add (k * 2)) = some x.vp ∧ w.cell? ⟨(ad.add (k * 2)).block, (ad.add (k * 2)).off + 1, none⟩ = some x.vd := by
        obtain ⟨ad, e, e2, h1, h2, h3⟩ := HG.out.n k hkl
        exact ⟨ad, e, e2, by rw [hx]; exact h1, by rw [hx]; exact h2⟩
      have HT := Lib.hid (show (ns.take (k + 1)).flatMap Nv.cs = (ns.take k).flatMap Nv.cs ++ [x.vp, x.vd] from by rw [take_snoc ns k hkl, List.flatMap_append, ← hx]; simp [Nv.cs])
      obtain ⟨xA, xc, xD, xd, xps, xbs⟩ := x
      obtain ⟨xn, hxn⟩ : ∃ n, n = xps.length := ⟨_, rfl⟩
      obtain ⟨xm, hxm⟩ : ∃ n, n = xbs.length := ⟨_, rfl⟩
      unfold Nv.vp at hc2
      unfold Nv.vd at hc3
      unfold Nv.vp Nv.vd at HT
      simp only at hc2 hc3 HT
      rw [← hxn] at hc2 HT
      rw [← hxm] at hc3 HT
      clear hxn hxm hx hkl
      have HCK := Lib.hid (fun (W : World) (hK : Kept (fun b => b = q) W1 W) => show W.cell? ⟨w.heap.size, 0, none⟩ = some (.slice (some ad) N ca) ∧ W.cell? (ad.add (k * 2)) = some (.slice xA xn xc) ∧ W.cell? ⟨(ad.add (k * 2)).block, (ad.add (k * 2)).off + 1, none⟩ = some (.slice xD xm xd) from by
        have hb := hK.bk HW1.out.1 (show ¬ (w.heap.size = q) from by have := HW1.out.2.2.2; omega)
        have hw : Below w.heap.size w W := HW1.out.2.2.1.trans (hK.below HW1.out.2.2.1.size (fun c e => by rw [e]; have := HW1.out.2.2.2; omega))
        exact ⟨hb.cell 0, (hw.cell (cell_lt hc2)).trans hc2, (hw.cell (cell_lt hc3)).trans hc3⟩)
      have p1 : (0 : Int) ≤ (k : Int) := by omega
      have p2 : (k : Int) < (N : Int) := by omega
      have hw0 : wr.drew.cell? ⟨q, 0, none⟩ = some (.slice VA k vc) ∧ wr.drew.cell? ⟨w.heap.size, 0, none⟩ = some (.slice (some ad) N ca) ∧ wr.drew.cell? (ad.add (k * 2)) = some (.slice xA xn xc) ∧ wr.drew.cell? ⟨(ad.add (k * 2)).block, (ad.add (k * 2)).off + 1, none⟩ = some (.slice xD xm xd) := ⟨(HS.out.bk.below (Gw.drew wr) HS.out.bk.lt).cell 0, HCK.out _ (HS.out.kp.trans (Kept.of_below (Gw.drew wr) _))⟩
      have hg0 := (HCK.out _ HS.out.kp).1
      clear hc2 hc3 had
      go_wp2_with fail
      clear hg0
      refine region_by_spineU 18 [15, 16, 18] [(0, 14, .pointer (some ⟨q, 0, none⟩)), (1, 15, .slice VA k vc), (2, 16, .pointer (some ⟨w.heap.size, 0, none⟩)), (3, 17, .slice (some ad) N ca), (4, 18, .int .i64 k), (5, 19, .pointer (some (ad.add (k * 2)))), (6, 20, .pointer (some (ad.add (k * 2)))), (7, 21, .slice xA xn xc), (8, 22, .pointer (some ⟨w.heap.size, 0, none⟩)), (9, 23, .slice (some ad) N ca), (10, 24, .int .i64 k), (11, 25, .pointer (some (ad.add (k * 2)))), (12, 26, .pointer (some ⟨(ad.add (k * 2)).block, (ad.add (k * 2)).off + 1, none⟩)), (13, 27, .slice xD xm xd), (14, 28, .agg #[.slice xA xn xc, .slice xD xm xd]), (17, 31, .pointer (some ⟨q, 0, none⟩))]
        (fun W => W.cell? ⟨q, 0, none⟩ = some (.slice VA k vc) ∧ W.cell? ⟨w.heap.size, 0, none⟩ = some (.slice (some ad) N ca) ∧ W.cell? (ad.add (k * 2)) = some (.slice xA xn xc) ∧ W.cell? ⟨(ad.add (k * 2)).block, (ad.add (k * 2)).off + 1, none⟩ = some (.slice xD xm xd)) (by kernel_rfl) (by kernel_rfl) (by kernel_rfl) (by kernel_rfl) (by kernel_rfl) (by kernel_rfl) (by kernel_rfl) hw0 ?_ ?_
      · intro y hy V ρ hV hρ hcst
        obtain ⟨k1, k2, k3, k4⟩ := hV
        have e1 : ρ (.tmp 1) = .pointer (some ⟨w.heap.size, 0, none⟩) := (hρ 1).trans (by kernel_rfl)
        have e3 : ρ (.tmp 3) = .pointer (some ⟨q, 0, none⟩) := (hρ 3).trans (by kernel_rfl)
        have e4 : ρ (.tmp 4) = .int .i64 k := (hρ 4).trans (by kernel_rfl)
        have e14 : ρ (.tmp 14) = .pointer (some ⟨q, 0, none⟩) := (hρ 14).trans (by kernel_rfl)
        have e15 : ρ (.tmp 15) = .slice VA k vc := (hρ 15).trans (by kernel_rfl)
        have e16 : ρ (.tmp 16) = .pointer (some ⟨w.heap.size, 0, none⟩) := (hρ 16).trans (by kernel_rfl)
        have e17 : ρ (.tmp 17) = .slice (some ad) N ca := (hρ 17).trans (by kernel_rfl)
        have e18 : ρ (.tmp 18) = .int .i64 k := (hρ 18).trans (by kernel_rfl)
        have e19 : ρ (.tmp 19) = .pointer (some (ad.add (k * 2))) := (hρ 19).trans (by kernel_rfl)
        have e20 : ρ (.tmp 20) = .pointer (some (ad.add (k * 2))) := (hρ 20).trans (by kernel_rfl)
        have e21 : ρ (.tmp 21) = .slice xA xn xc := (hρ 21).trans (by kernel_rfl)
        have e22 : ρ (.tmp 22) = .pointer (some ⟨w.heap.size, 0, none⟩) := (hρ 22).trans (by kernel_rfl)
        have e23 : ρ (.tmp 23) = .slice (some ad) N ca := (hρ 23).trans (by kernel_rfl)
        have e24 : ρ (.tmp 24) = .int .i64 k := (hρ 24).trans (by kernel_rfl)
        have e25 : ρ (.tmp 25) = .pointer (some (ad.add (k * 2))) := (hρ 25).trans (by kernel_rfl)
        have e26 : ρ (.tmp 26) = .pointer (some ⟨(ad.add (k * 2)).block, (ad.add (k * 2)).off + 1, none⟩) := (hρ 26).trans (by kernel_rfl)
        have e27 : ρ (.tmp 27) = .slice xD xm xd := (hρ 27).trans (by kernel_rfl)
        clear hρ
        simp only [List.mem_cons, List.not_mem_nil, or_false] at hy
        rcases hy with rfl | rfl | rfl | rfl | rfl | rfl | rfl | rfl | rfl | rfl | rfl | rfl | rfl | rfl | rfl | rfl
        all_goals
          refine ⟨_, rfl, ?_⟩
          go_simp
          try rfl
      simp only [putA, putD, Act.put, List.setIfInBounds_toArray, List.set_cons_zero, List.set_cons_succ]
      refine spineU_list rfl rfl rfl ?_
      go_wp2_with fail
      have b3 : Below wr.heap.size wr (wr.drew.alloc (.cells #[.slice xA xn xc, .slice xD xm xd] 58)) := (Gw.drew wr).trans ((Gw.alloc wr.drew _).mono (Gw.drew wr).size)
      have E3 : Bk (wr.drew.alloc (.cells #[.slice xA xn xc, .slice xD xm xd] 58)) wr.heap.size 58 #[.slice xA xn xc, .slice xD xm xd] := Bk.new wr.drew 58 #[.slice xA xn xc, .slice xD xm xd]
      have q3 := HS.out.bk.below b3 HS.out.bk.lt
      have HW3 := Lib.hid (show (wr.drew.alloc (.cells #[.slice xA xn xc, .slice xD xm xd] 58)).cell? ⟨q, 0, none⟩ = some (.slice VA k vc) ∧ (wr.drew.alloc (.cells #[.slice xA xn xc, .slice xD xm xd] 58)).cell? ⟨w.heap.size, 0, none⟩ = some (.slice (some ad) N ca) ∧ (wr.drew.alloc (.cells #[.slice xA xn xc, .slice xD xm xd] 58)).cell? (ad.add (k * 2)) = some (.slice xA xn xc) ∧ (wr.drew.alloc (.cells #[.slice xA xn xc, .slice xD xm xd] 58)).cell? ⟨(ad.add (k * 2)).block, (ad.add (k * 2)).off + 1, none⟩ = some (.slice xD xm xd) from ⟨q3.cell 0, HCK.out _ (HS.out.kp.trans (Kept.of_below b3 _))⟩)
      refine ⟨rfl, (by first | exact HW3.out | exact fun _ => HW3.out), ?_⟩
      refine spineU_list rfl rfl rfl ?_
      obtain ⟨i0, hi, hz0, hz1, hz2⟩ := info_parts infoN7
      have ho3 := ownsRow_below HS.out.row b3
      refine wp_appR 2 i0 Try.underlying28 hi hz0 hz1 hz2 (by rfl) (by decide) rfl (.tmp 15) (.tmp 29) rfl W1.heap.size _ k _ rfl ho3 ⟨wr.heap.size, 0, none⟩ 1 1 [.slice xA xn xc, .slice xD xm xd] rfl rfl (two_news E3) (fun u hu => ?_) (by unfold maxLen; omega) (by omega) (Nat.le_trans HS.out.kp.size b3.size) ?_
      · simp only [List.mem_cons, List.not_mem_nil, or_false] at hu
        rcases hu with rfl | rfl <;> rfl
      intro v5 w5 ho5 hb5 hg5 hv5
      obtain ⟨A5, c5, rfl⟩ := own_form ho5
      have hkp : Kept (fun b => b = q) W1 w5 := (HS.out.kp.trans (Kept.of_below b3 _)).bel hb5
      have hq5 := q3.below hb5 HS.out.lt
      have HW5 := Lib.hid (show w5.cell? ⟨q, 0, none⟩ = some (.slice VA k vc) ∧ w5.cell? ⟨w.heap.size, 0, none⟩ = some (.slice (some ad) N ca) ∧ w5.cell? (ad.add (k * 2)) = some (.slice xA xn xc) ∧ w5.cell? ⟨(ad.add (k * 2)).block, (ad.add (k * 2)).off + 1, none⟩ = some (.slice xD xm xd) from ⟨hq5.cell 0, HCK.out _ hkp⟩)
      have F5 := hq5.free 0
      have C5 := hq5.cell 0
      have H5 := Lib.hid (And.intro ho5 (And.intro hkp hq5))
      clear ho3 ho5 hb5 hg5 hv5 hi hz0 hz1 hz2 b3 E3 q3 hkp hq5 hw0
      refine ⟨rfl, (by first | exact HW5.out | exact fun _ => HW5.out), ?_⟩
      refine spineU_list rfl rfl rfl ?_
      go_wp2_with fail
      refine ⟨rfl, trivial, ?_⟩
      unfold SpineU
      have X : ∃ (k' : Nat) (VA' : Option Addr) (vc' : Nat), (Value.int .i64 ((k : Int) + 1)) = .int .i64 k' ∧ k' ≤ N ∧ OfS w W1 (w5.setCell ⟨q, 0, none⟩ (.slice A5 (k + 1) c5)) q 0 k' 58 VA' vc' ((ns.take k').flatMap Nv.cs) #[.slice VA' k' vc', .slice none 0 0] := by
        obtain ⟨h1, h2, h3⟩ := H5.out
        refine ⟨k + 1, A5, c5, by go_num, by omega, ?_, h3.set 0 _, h2.trans (Kept.set w5 q 0 _), HS.out.lt⟩
        rw [HT.out]
        refine World.ownsRow.kept h1 (grown_set w5 ⟨q, 0, none⟩ _) ?_
        cases e : (Value.slice A5 (k + 1) c5).ownBlock with
        | none => exact .inl rfl
        | some c => exact .inr (fun e2 => by injection e2 with e2; have e3 : c = q := e2; have h5 := (World.ownsRow.lt h1 c e).1; have := HS.out.lt; omega)
      clear F5 C5 H5 HS
      go_wp2_with fail
      go_roundw
      case rel => first | exact X | exact ⟨_, _, _, _, _, _, _, _, _, _, _, _, _, _, _, _, _, _, X, rfl⟩
      case measure => simp [Go.RowKit.intOf]; omega
    · have hkN : k = N := by omega
      subst hkN
      have HR := Lib.hid (show wr.ownsRow W1.heap.size 58 2 (.slice VA k vc) ns.length (ns.flatMap Nv.cs) ∧ q < W1.heap.size from by
        have h := HS.out.row
        rw [List.take_of_length_le (by rw [← HN.out.1]; exact Nat.le_refl _)] at h
        rw [← HN.out.1]
        exact ⟨h, HS.out.lt⟩)
      have HW2 := Lib.hid (show Bk wr w.heap.size 25 #[.slice A k ca, .slice A2 M ca2] ∧ Bk wr (w.heap.size + 1) 31 #[.slice none 0 0, .slice none 0 0] ∧ Below w.heap.size w wr ∧ q = w.heap.size + 2 from by
        obtain ⟨h1, h2, h3, h4⟩ := HW1.out
        have hK := HS.out.kp
        exact ⟨hK.bk h1 (by omega), hK.bk h2 (by omega), h3.trans (hK.below h3.size (fun c e => by rw [e]; omega)), h4⟩)
      have HX2 := Lib.hid HS.out.bk
      have e0 := HW2.out.1.two.1
      obtain ⟨B0, hB0⟩ : ∃ B0, B0 = W1.heap.size := ⟨_, rfl⟩
      rw [← hB0] at HR
      clear HS HW1 HX1 hB0
      go_wp2_with fail
      clear e0
      obtain ⟨W1, hW1⟩ : ∃ W1, W1 = wr := ⟨_, rfl⟩
      rw [← hW1] at HR HW2 HX2 ⊢
      have HW1 := Lib.hid HW2.out
      clear HW2 hW1 hlt hk
      obtain ⟨NA, hNA⟩ : ∃ NA, NA = VA := ⟨_, rfl⟩
      obtain ⟨nc, hnc⟩ : ∃ nc, nc = vc := ⟨_, rfl⟩
      rw [← hNA, ← hnc] at HR HX2
      clear hNA hnc
      obtain ⟨N, hNk⟩ : ∃ N, N = k := ⟨_, rfl⟩
      rw [← hNk] at HR HX2 HW1 HN q0 ⊢
      clear hNk
      go_loopw [5] (fun i W => ∃ (k : Nat) (VA : Option Addr) (vc : Nat), i = .int .i64 k ∧ k ≤ M ∧ OfS w W1 W q 1 k 59 VA vc ((rs.take k).flatMap Rv.cs) #[.slice NA N nc, .slice VA k vc]) (fun i _ => M - (Go.RowKit.intOf i).toNat)
      case atStart => exact ⟨0, none, 0, rfl, Nat.zero_le _, ⟨by simp, .inl ⟨rfl, rfl⟩⟩, HX2.out, Kept.refl _ _, HX2.out.lt⟩
      case round =>
        obtain ⟨k, VA, vc, rfl, hk, hS⟩ := hrel
        have HS := Lib.hid hS
        clear hS
        by_cases hlt : k < M
        · have hkl : k < rs.length := by rw [← HN.out.2]; exact hlt
          obtain ⟨x, hx⟩ : ∃ x, x = rs[k] := ⟨_, rfl⟩
          obtain ⟨ad, rfl, had, hc2, hc3⟩ : ∃ ad, A2 = some ad ∧ ad.block < w.heap.size ∧ w.cell? (ad.add (k * 2)) = some (.string x.s) ∧ w.cell? ⟨(ad.add (k * 2)).block, (ad.add (k * 2)).off + 1, none⟩ = some (.int .i64 x.t) := by
            obtain ⟨ad, e, e2, h1, h2⟩ := HG.out.r k hkl
            exact ⟨ad, e, e2, by rw [hx]; exact h1, by rw [hx]; exact h2⟩
          have HT := Lib.hid (show (rs.take (k + 1)).flatMap Rv.cs = (rs.take k).flatMap Rv.cs ++ [.string x.s, .int .i64 x.t] from by rw [take_snoc rs k hkl, List.flatMap_append, ← hx]; simp [Rv.cs])
          obtain ⟨rs2, rt⟩ := x
          simp only at hc2 hc3 HT
          clear hx hkl
          have HCK := Lib.hid (fun (W : World) (hK : Kept (fun b => b = q) W1 W) => show W.cell? ⟨w.heap.size, 1, none⟩ = some (.slice (some ad) M ca2) ∧ W.cell? (ad.add (k * 2)) = some (.string rs2) ∧ W.cell? ⟨(ad.add (k * 2)).block, (ad.add (k * 2)).off + 1, none⟩ = some (.int .i64 rt) from by
            have hb := hK.bk HW1.out.1 (show ¬ (w.heap.size = q) from by have := HW1.out.2.2.2; omega)
            have hw : Below w.heap.size w W := HW1.out.2.2.1.trans (hK.below HW1.out.2.2.1.size (fun c e => by rw [e]; have := HW1.out.2.2.2; omega))
            exact ⟨hb.cell 1, (hw.cell (cell_lt hc2)).trans hc2, (hw.cell (cell_lt hc3)).trans hc3⟩)
          have p1 : (0 : Int) ≤ (k : Int) := by omega
          have p2 : (k : Int) < (M : Int) := by omega
          have hw0 : wr.drew.cell? ⟨q, 1, none⟩ = some (.slice VA k vc) ∧ wr.drew.cell? ⟨w.heap.size, 1, none⟩ = some (.slice (some ad) M ca2) ∧ wr.drew.cell? (ad.add (k * 2)) = some (.string rs2) ∧ wr.drew.cell? ⟨(ad.add (k * 2)).block, (ad.add (k * 2)).off + 1, none⟩ = some (.int .i64 rt) := ⟨(HS.out.bk.below (Gw.drew wr) HS.out.bk.lt).cell 1, HCK.out _ (HS.out.kp.trans (Kept.of_below (Gw.drew wr) _))⟩
          have hg0 := (HCK.out _ HS.out.kp).1
          clear hc2 hc3 had
          go_wp2_with fail
          clear hg0
          refine region_by_spineU 18 [15, 16, 18] [(0, 39, .pointer (some ⟨q, 1, none⟩)), (1, 40, .slice VA k vc), (2, 41, .pointer (some ⟨w.heap.size, 1, none⟩)), (3, 42, .slice (some ad) M ca2), (4, 43, .int .i64 k), (5, 44, .pointer (some (ad.add (k * 2)))), (6, 45, .pointer (some (ad.add (k * 2)))), (7, 46, .string rs2), (8, 47, .pointer (some ⟨w.heap.size, 1, none⟩)), (9, 48, .slice (some ad) M ca2), (10, 49, .int .i64 k), (11, 50, .pointer (some (ad.add (k * 2)))), (12, 51, .pointer (some ⟨(ad.add (k * 2)).block, (ad.add (k * 2)).off + 1, none⟩)), (13, 52, .int .i64 rt), (14, 53, .agg #[.string rs2, .int .i64 rt]), (17, 56, .pointer (some ⟨q, 1, none⟩))]
            (fun W => W.cell? ⟨q, 1, none⟩ = some (.slice VA k vc) ∧ W.cell? ⟨w.heap.size, 1, none⟩ = some (.slice (some ad) M ca2) ∧ W.cell? (ad.add (k * 2)) = some (.string rs2) ∧ W.cell? ⟨(ad.add (k * 2)).block, (ad.add (k * 2)).off + 1, none⟩ = some (.int .i64 rt)) (by kernel_rfl) (by kernel_rfl) (by kernel_rfl) (by kernel_rfl) (by kernel_rfl) (by kernel_rfl) (by kernel_rfl) hw0 ?_ ?_
          · intro y hy V ρ hV hρ hcst
            obtain ⟨k1, k2, k3, k4⟩ := hV
            have e1 : ρ (.tmp 1) = .pointer (some ⟨w.heap.size, 0, none⟩) := (hρ 1).trans (by kernel_rfl)
            have e3 : ρ (.tmp 3) = .pointer (some ⟨q, 0, none⟩) := (hρ 3).trans (by kernel_rfl)
            have e5 : ρ (.tmp 5) = .int .i64 k := (hρ 5).trans (by kernel_rfl)
            have e39 : ρ (.tmp 39) = .pointer (some ⟨q, 1, none⟩) := (hρ 39).trans (by kernel_rfl)
            have e40 : ρ (.tmp 40) = .slice VA k vc := (hρ 40).trans (by kernel_rfl)
            have e41 : ρ (.tmp 41) = .pointer (some ⟨w.heap.size, 1, none⟩) := (hρ 41).trans (by kernel_rfl)
            have e42 : ρ (.tmp 42) = .slice (some ad) M ca2 := (hρ 42).trans (by kernel_rfl)
            have e43 : ρ (.tmp 43) = .int .i64 k := (hρ 43).trans (by kernel_rfl)
            have e44 : ρ (.tmp 44) = .pointer (some (ad.add (k * 2))) := (hρ 44).trans (by kernel_rfl)
            have e45 : ρ (.tmp 45) = .pointer (some (ad.add (k * 2))) := (hρ 45).trans (by kernel_rfl)
            have e46 : ρ (.tmp 46) = .string rs2 := (hρ 46).trans (by kernel_rfl)
            have e47 : ρ (.tmp 47) = .pointer (some ⟨w.heap.size, 1, none⟩) := (hρ 47).trans (by kernel_rfl)
            have e48 : ρ (.tmp 48) = .slice (some ad) M ca2 := (hρ 48).trans (by kernel_rfl)
            have e49 : ρ (.tmp 49) = .int .i64 k := (hρ 49).trans (by kernel_rfl)
            have e50 : ρ (.tmp 50) = .pointer (some (ad.add (k * 2))) := (hρ 50).trans (by kernel_rfl)
            have e51 : ρ (.tmp 51) = .pointer (some ⟨(ad.add (k * 2)).block, (ad.add (k * 2)).off + 1, none⟩) := (hρ 51).trans (by kernel_rfl)
            have e52 : ρ (.tmp 52) = .int .i64 rt := (hρ 52).trans (by kernel_rfl)
            clear hρ
            simp only [List.mem_cons, List.not_mem_nil, or_false] at hy
            rcases hy with rfl | rfl | rfl | rfl | rfl | rfl | rfl | rfl | rfl | rfl | rfl | rfl | rfl | rfl | rfl | rfl
            all_goals
              refine ⟨_, rfl, ?_⟩
              go_simp
              try rfl
          simp only [putA, putD, Act.put, List.setIfInBounds_toArray, List.set_cons_zero, List.set_cons_succ]
          refine spineU_list rfl rfl rfl ?_
          go_wp2_with fail
          have b3 : Below wr.heap.size wr (wr.drew.alloc (.cells #[.string rs2, .int .i64 rt] 59)) := (Gw.drew wr).trans ((Gw.alloc wr.drew _).mono (Gw.drew wr).size)
          have E3 : Bk (wr.drew.alloc (.cells #[.string rs2, .int .i64 rt] 59)) wr.heap.size 59 #[.string rs2, .int .i64 rt] := Bk.new wr.drew 59 #[.string rs2, .int .i64 rt]
          have q3 := HS.out.bk.below b3 HS.out.bk.lt
          have HW3 := Lib.hid (show (wr.drew.alloc (.cells #[.string rs2, .int .i64 rt] 59)).cell? ⟨q, 1, none⟩ = some (.slice VA k vc) ∧ (wr.drew.alloc (.cells #[.string rs2, .int .i64 rt] 59)).cell? ⟨w.heap.size, 1, none⟩ = some (.slice (some ad) M ca2) ∧ (wr.drew.alloc (.cells #[.string rs2, .int .i64 rt] 59)).cell? (ad.add (k * 2)) = some (.string rs2) ∧ (wr.drew.alloc (.cells #[.string rs2, .int .i64 rt] 59)).cell? ⟨(ad.add (k * 2)).block, (ad.add (k * 2)).off + 1, none⟩ = some (.int .i64 rt) from ⟨q3.cell 1, HCK.out _ (HS.out.kp.trans (Kept.of_below b3 _))⟩)
          refine ⟨rfl, (by first | exact HW3.out | exact fun _ => HW3.out), ?_⟩
          refine spineU_list rfl rfl rfl ?_
          obtain ⟨i0, hi, hz0, hz1, hz2⟩ := info_parts infoR7
          have ho3 := ownsRow_below HS.out.row b3
          refine wp_appR 2 i0 Try.underlying29 hi hz0 hz1 hz2 (by rfl) (by decide) rfl (.tmp 40) (.tmp 54) rfl W1.heap.size _ k _ rfl ho3 ⟨wr.heap.size, 0, none⟩ 1 1 [.string rs2, .int .i64 rt] rfl rfl (two_news E3) (fun u hu => ?_) (by unfold maxLen; omega) (by omega) (Nat.le_trans HS.out.kp.size b3.size) ?_
          · simp only [List.mem_cons, List.not_mem_nil, or_false] at hu
            rcases hu with rfl | rfl <;> rfl
          intro v5 w5 ho5 hb5 hg5 hv5
          obtain ⟨A5, c5, rfl⟩ := own_form ho5
          have hkp : Kept (fun b => b = q) W1 w5 := (HS.out.kp.trans (Kept.of_below b3 _)).bel hb5
          have hq5 := q3.below hb5 HS.out.lt
          have HW5 := Lib.hid (show w5.cell? ⟨q, 1, none⟩ = some (.slice VA k vc) ∧ w5.cell? ⟨w.heap.size, 1, none⟩ = some (.slice (some ad) M ca2) ∧ w5.cell? (ad.add (k * 2)) = some (.string rs2) ∧ w5.cell? ⟨(ad.add (k * 2)).block, (ad.add (k * 2)).off + 1, none⟩ = some (.int .i64 rt) from ⟨hq5.cell 1, HCK.out _ hkp⟩)
          have F5 := hq5.free 1
          have C5 := hq5.cell 1
          have H5 := Lib.hid (And.intro ho5 (And.intro hkp hq5))
          clear ho3 ho5 hb5 hg5 hv5 hi hz0 hz1 hz2 b3 E3 q3 hkp hq5 hw0
          refine ⟨rfl, (by first | exact HW5.out | exact fun _ => HW5.out), ?_⟩
          refine spineU_list rfl rfl rfl ?_
          go_wp2_with fail
          refine ⟨rfl, trivial, ?_⟩
          unfold SpineU
          have X : ∃ (k' : Nat) (VA' : Option Addr) (vc' : Nat), (Value.int .i64 ((k : Int) + 1)) = .int .i64 k' ∧ k' ≤ M ∧ OfS w W1 (w5.setCell ⟨q, 1, none⟩ (.slice A5 (k + 1) c5)) q 1 k' 59 VA' vc' ((rs.take k').flatMap Rv.cs) #[.slice NA N nc, .slice VA' k' vc'] := by
            obtain ⟨h1, h2, h3⟩ := H5.out
            refine ⟨k + 1, A5, c5, by go_num, by omega, ?_, h3.set 1 _, h2.trans (Kept.set w5 q 1 _), HS.out.lt⟩
            rw [HT.out]
            refine World.ownsRow.kept h1 (grown_set w5 ⟨q, 1, none⟩ _) ?_
            cases e : (Value.slice A5 (k + 1) c5).ownBlock with
            | none => exact .inl rfl
            | some c => exact .inr (fun e2 => by injection e2 with e2; have e3 : c = q := e2; have h5 := (World.ownsRow.lt h1 c e).1; have := HS.out.lt; omega)
          clear F5 C5 H5 HS
          go_wp2_with fail
          go_roundw
          case rel => first | exact X | exact ⟨_, _, _, _, _, _, _, _, _, _, _, _, _, _, _, _, _, _, X, rfl⟩
          case measure => simp [Go.RowKit.intOf]; omega
        · have hkM : k = M := by omega
          subst hkM
          have hK := HS.out.kp
          have HR2 := Lib.hid (show wr.ownsRow W1.heap.size 59 2 (.slice VA k vc) rs.length (rs.flatMap Rv.cs) from by
            have h := HS.out.row
            rw [List.take_of_length_le (by rw [← HN.out.2]; exact Nat.le_refl _)] at h
            rw [← HN.out.2]
            exact h)
          obtain ⟨h1, h2, h3, h4⟩ := HW1.out
          have hrb := hK.bk h2 (show ¬ (w.heap.size + 1 = q) from by omega)
          have hgb := hK.bk h1 (show ¬ (w.heap.size = q) from by omega)
          have hbw : Below w.heap.size w wr := h3.trans (hK.below h3.size (fun c e => by rw [e]; omega))
          have g0 := hgb.two.2
          have d0 := hrb.two.1
          have d1 := hrb.two.2
          have d2 := hrb.free 0
          have d3 := hrb.free 1
          have e0 := HS.out.bk.two.1
          have e1 := HS.out.bk.two.2
          have HF := Lib.hid (And.intro hrb (And.intro hbw (And.intro h4 (show W1.heap.size > w.heap.size + 1 from h2.lt))))
          clear h1 h2 h3 h4 hrb hgb hbw hK
          go_wp2_with fail
          obtain ⟨o1, o2, o3, o4⟩ := HF.out
          have hbz : Bk ((wr.setCell ⟨w.heap.size + 1, 0, none⟩ (.slice NA N nc)).setCell ⟨w.heap.size + 1, 1, none⟩ (.slice VA k vc)) (w.heap.size + 1) 31 #[.slice NA N nc, .slice VA k vc] := by
            have h := (o1.set 0 (.slice NA N nc)).set 1 (.slice VA k vc)
            simpa using h
          refine bodyPost_ret (v := .agg #[.slice NA N nc, .slice VA k vc]) (of_res hbz rfl) rfl ?_
          have hKf : Kept (fun b => b = w.heap.size + 1) wr ((wr.setCell ⟨w.heap.size + 1, 0, none⟩ (.slice NA N nc)).setCell ⟨w.heap.size + 1, 1, none⟩ (.slice VA k vc)) := (Kept.set wr _ 0 _).trans (Kept.set _ _ 1 _)
          have hbf : Below w.heap.size w ((wr.setCell ⟨w.heap.size + 1, 0, none⟩ (.slice NA N nc)).setCell ⟨w.heap.size + 1, 1, none⟩ (.slice VA k vc)) := o2.trans (hKf.below o2.size (fun c e => by rw [e]; omega))
          have r1 := row_kept hKf (row_kept HS.out.kp HR.out.1 (fun c e => by rw [e]; exact HR.out.2)) (fun c e => by rw [e]; have := HR.out.2; omega)
          have r2 := row_kept hKf HR2.out (fun c e => by rw [e]; exact o4)
          refine ⟨⟨NA, nc, VA, vc, ns, rs⟩, ?_, ⟨nrow_of r1 (fun x hx => ?_), rrow_of r2, (own_len r1).2, (own_len r2).2⟩, rfl, rfl, hbf⟩
          · show Ending.returned _ = Ending.returned (Value.agg #[.slice NA ns.length nc, .slice VA rs.length vc])
            rw [← HN.out.1, ← HN.out.2]
          · obtain ⟨i, hi, rfl⟩ := List.mem_iff_getElem.1 hx
            obtain ⟨_, _, _, _, _, h⟩ := HG.out.n i hi
            exact h.up hbf
theorem of_c (w : World) (g : Gv) (hg : g.At w w.heap.size) (hs : FewP g) : Calls Try.prog 9 #[g.v] w fun e w' => ∃ g' : Gv, e = .returned g'.v ∧ g'.At w' w'.heap.size ∧ g'.n = g.n ∧ g'.r = g.r ∧ Below w.heap.size w w' := of_cS w g hg hs.small
end Go.Proofs.Ytkkjnahjmomjgaa
