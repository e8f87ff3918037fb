/- The law ObjectApart of layer 16 returns true for every argument. Conditions: the listed tables. -/
import Derived.Test.YtfodefgihicafaaDoorOa8
namespace Go.Proofs.YtfodefgihicafaaDoor
set_option linter.unusedVariables false
set_option linter.unusedSimpArgs false
open Go.RowKit Go.Maps
set_option maxHeartbeats 4000000
set_option maxRecDepth 100000
theorem rem_nat (x : Int) (m : Nat) (hm : 0 < m) (h : (Lit.int .u8 x).wf = true) : ∃ n : Nat, n < m ∧ x % (m : Int) = (n : Int) ∧ x.tmod (m : Int) = (n : Int) := by
  obtain ⟨h0, _⟩ : 0 ≤ x ∧ x ≤ 255 := by
    rw [wfu8 h]
    exact ⟨U8_lo _, by have := U8_hi (BitVec.ofInt 8 x); omega⟩
  obtain ⟨k, rfl⟩ : ∃ k : Nat, x = (k : Int) := ⟨x.toNat, by omega⟩
  refine ⟨k % m, Nat.mod_lt _ hm, rfl, rfl⟩
theorem apart_walk (w : World) (ht : w.cell? ⟨2, 15, none⟩ = some (.int .u8 4)) (p : Int) (wp : (Lit.int .u8 p).wf = true) (a : Int) (wa : (Lit.int .u8 a).wf = true) (b : Int) (wb : (Lit.int .u8 b).wf = true)
    (A : Option Addr) (xs : List (BitVec 8)) (c : Nat) (hc : xs.length ≤ c) (hm : c ≤ maxLen) (hr : Rd b8 w w.heap.size A xs) (A2 : Option Addr) (ys : List (BitVec 8)) (c2 : Nat) (hc2 : ys.length ≤ c2) (hm2 : c2 ≤ maxLen) (hr2 : Rd b8 w w.heap.size A2 ys) :
    Calls Tryd.prog 5 #[.int .u8 p, .int .u8 a, .int .u8 b, .slice A xs.length c, .slice A2 ys.length c2] w (RetP (.bool true) w) := by
  obtain ⟨P, hP, _, p2⟩ := rem_nat p 8 (by decide) wp
  obtain ⟨n, hn, _, n2⟩ := rem_nat a 64 (by decide) wa
  obtain ⟨k, hk, _, k2⟩ := rem_nat b 64 (by decide) wb
  have p3 : p.tmod 8 = (P : Int) := p2
  have n3 : a.tmod 64 = (n : Int) := n2
  have k3 : b.tmod 64 = (k : Int) := k2
  have p4 : (P : Int) < 8 := by omega
  have n4 : (n : Int) < 64 := by omega
  have k4 : (k : Int) < 64 := by omega
  obtain ⟨X, hX⟩ : ∃ X, X = xs.length := ⟨_, rfl⟩
  obtain ⟨Y, hY⟩ : ∃ Y, Y = ys.length := ⟨_, rfl⟩
  rw [← hX, ← hY]
  have HT := Lib.hid ht
  have HR := Lib.hid (And.intro hr hr2)
  have HX := Lib.hid (And.intro hX hY)
  have HN := Lib.hid (And.intro hP (And.intro hn hk))
  clear ht hr hr2 hX hY hc hm hc2 hm2 wp wa wb hP hn hk p2 n2 k2
  by_cases cx : (n : Int) < (X : Int)
  · go_enter Tryd.func5, Tryd.ntmps5
    go_wp2_with fail
    refine Calls.mono (known16_c w HT.out) ?_
    rintro r w1 ⟨rfl, b1⟩
    have H1 := Lib.hid b1
    clear b1 HT
    go_wp2_with fail
    go_ret
    exact ⟨rfl, H1.out⟩
  by_cases cy : (k : Int) < (Y : Int)
  · have cx2 : (X : Int) ≤ (n : Int) := by omega
    clear cx
    go_enter Tryd.func5, Tryd.ntmps5
    go_wp2_with fail
    refine Calls.mono (known16_c w HT.out) ?_
    rintro r w1 ⟨rfl, b1⟩
    have H1 := Lib.hid b1
    clear b1 HT
    go_wp2_with fail
    go_ret
    exact ⟨rfl, H1.out⟩
  have cx2 : (X : Int) ≤ (n : Int) := by omega
  have cy2 : (Y : Int) ≤ (k : Int) := by omega
  obtain ⟨D, hD⟩ : ∃ D : Nat, D = n - X := ⟨_, rfl⟩
  have hD2 : (n : Int) - (X : Int) = (D : Int) := by omega
  obtain ⟨S, hS⟩ : ∃ S : Nat, S = 1 + P + (n + 7) / 8 := ⟨_, rfl⟩
  obtain ⟨T, hT⟩ : ∃ T : Nat, T = S + (1 + 0 + (k + 7) / 8) := ⟨_, rfl⟩
  have HS := Lib.hid (show S = 1 + P + (n + 7) / 8 ∧ T = S + (1 + 0 + (k + 7) / 8) ∧ D = n - X ∧ X ≤ n ∧ Y ≤ k from ⟨hS, hT, hD, by omega, by omega⟩)
  clear cx cy hD hS hT
  go_enter Tryd.func5, Tryd.ntmps5
  go_wp2_with fail
  refine Calls.mono (known16_c w HT.out) ?_
  rintro r w1 ⟨rfl, b1⟩
  have H1 := Lib.hid b1
  clear b1 HT
  go_wp2_with fail
  refine Calls.mono (new_in w1 200 (by decide)) ?_
  rintro r w2 ⟨g, v, rfl, h2, b2⟩
  have HB2 := Lib.hid (H1.out.trans (b2.mono H1.out.size))
  clear b2
  go_wp2_with fail
  refine Calls.mono (snew_in _ _ _ _ _ 0 200 h2 (by decide) (by rw [List.length_replicate]; decide) (by rw [List.length_replicate]; decide)) ?_
  rintro r w3 ⟨s, rfl, h3, b3⟩
  have HB3 := Lib.hid (HB2.out.trans (b3.mono HB2.out.size))
  have H3 := Lib.hid h3
  clear b3 h2 h3 HB2
  go_wp2_with fail
  refine Calls.mono (ap_a _ _ _ _ P n k S T _ HN.out.1 HN.out.2.1 HS.out.1 HS.out.2.1 H3.out) ?_
  rintro r w4 ⟨rfl, h4, b4⟩
  have HB4 := Lib.hid (HB3.out.trans (b4.mono H1.out.size))
  have H4 := Lib.hid h4
  clear b4 h4 H3 HB3
  go_wp2_with fail
  refine Calls.mono (ap_b _ _ _ _ P n k S T _ HN.out.1 HN.out.2.1 HN.out.2.2 HS.out.1 HS.out.2.1 H4.out) ?_
  rintro r w5 ⟨rfl, h5, b5⟩
  have HB5 := Lib.hid (HB4.out.trans (b5.mono H1.out.size))
  have H5 := Lib.hid h5
  clear b5 h5 H4 HB4
  go_wp2_with fail
  refine Calls.mono (ap_w1 _ _ _ _ P n k S T _ HN.out.1 HN.out.2.1 HN.out.2.2 HS.out.1 HS.out.2.1 ys Y c2 HX.out.2 HS.out.2.2.2.2 A2 H5.out ((HR.out.2.below HB5.out).more HB5.out.size) (rd_apart HR.out.2 (fun q e => (H5.out.mem.row.lt q e).1) H1.out.size)) ?_
  rintro r w6 ⟨rfl, h6, _, b6⟩
  have HB6 := Lib.hid (HB5.out.trans (b6.mono H1.out.size))
  have H6 := Lib.hid h6
  clear b6 h6 H5 HB5
  go_wp2_with fail
  refine Calls.mono (ap_w2 _ _ _ _ P n k S T _ HN.out.1 HN.out.2.1 HN.out.2.2 HS.out.1 HS.out.2.1 xs ys X D c HX.out.1 HS.out.2.2.2.1 HS.out.2.2.1 A H6.out ((HR.out.1.below HB6.out).more HB6.out.size) (rd_apart HR.out.1 (fun q e => (H6.out.mem.row.lt q e).1) H1.out.size)) ?_
  rintro r w7 ⟨rfl, h7, _, b7⟩
  have HB7 := Lib.hid (HB6.out.trans (b7.mono H1.out.size))
  have H7 := Lib.hid h7
  clear b7 h7 H6 HB6
  go_wp2_with fail
  refine Calls.mono (ap_r1 _ _ _ _ P n k S T _ HN.out.1 HN.out.2.1 HN.out.2.2 HS.out.1 HS.out.2.1 xs ys X D HX.out.1 HS.out.2.2.2.1 (by rw [← HX.out.2]; exact HS.out.2.2.2.2) HS.out.2.2.1 H7.out) ?_
  rintro r w8 ⟨A8, c8, rfl, _, ho8, b8_⟩
  have HB8 := Lib.hid (HB7.out.trans (b8_.mono HB7.out.size))
  have H8 := Lib.hid (H7.out.below b8_)
  have HR8 := Lib.hid ho8.rd
  clear b8_ ho8 H7 HB7
  rw [← HX.out.1]
  go_wp2_with fail
  refine Calls.mono (ap_r2 _ _ _ _ P n k S T _ HN.out.1 HN.out.2.1 HN.out.2.2 HS.out.1 HS.out.2.1 xs ys Y HX.out.2 (by rw [← HX.out.1]; exact HS.out.2.2.2.1) HS.out.2.2.2.2 H8.out) ?_
  rintro r w9 ⟨A9, c9, rfl, _, ho9, b9⟩
  have HB9 := Lib.hid (HB8.out.trans (b9.mono HB8.out.size))
  have H9 := Lib.hid (H8.out.below b9)
  have v1 := str_conv xs A8 c8 _ w9 (HR8.out.below b9)
  have v2 := str_conv ys A9 c9 _ w9 ho9.rd
  have v3 := str_conv xs A c _ w9 (HR.out.1.below HB9.out)
  have v4 := str_conv ys A2 c2 _ w9 (HR.out.2.below HB9.out)
  rw [← HX.out.1] at v1 v3
  rw [← HX.out.2] at v2 v4
  rw [← HX.out.2]
  clear b9 ho9 H8 HB8 HR8
  go_wp2_with fail
  refine Calls.mono (ap_z _ _ _ _ P n k S T _ HN.out.1 HN.out.2.1 HN.out.2.2 HS.out.1 HS.out.2.1 xs ys (by rw [← HX.out.1]; exact HS.out.2.2.2.1) (by rw [← HX.out.2]; exact HS.out.2.2.2.2) H9.out) ?_
  rintro r w10 ⟨rfl, b10⟩
  have HB10 := Lib.hid (HB9.out.trans (b10.mono HB9.out.size))
  clear b10 H9 HB9 v1 v2 v3 v4
  go_wp2_with fail
  go_ret
  exact ⟨rfl, HB10.out⟩
end Go.Proofs.YtfodefgihicafaaDoor
namespace Go.Proofs.YtfodefgihicafaaDoor.objectApart
open Go.ChangeShapes Go.WideShapes Go.ChangeAt Go.RowKit
open Go.ChangeMaps (open_string shut_string)
set_option linter.unusedVariables false
set_option maxRecDepth 100000 in
theorem lifted (os : Os) (started : os.Started) (H : Type) (enc : TypeId × Value → H) :
    ReturnsInHanded {} Tryd.checked os 5 .any (fun w args => (Rows.objectApartSpec.pre enc Tryd.prog Tryd.f5 [] false w args ∧ laidMetH Tryd.prog laid16 w) ∧ sizedMet enc Tryd.prog Tryd.f5 (OpenSpec.ofChange Rows.objectApartSpec) false w args) (Rows.objectApartSpec.post enc Tryd.prog Tryd.f5 false true false false) := by
  refine returnsInHanded_of_change_and (C := Tryd.checked) (X := fun w _ => laidMetH Tryd.prog laid16 w) (fun _ _ _ hh h => h.of_heap hh) own started (by kernel_rfl) Tryd.func5
    (ChangeSpec.witness_shaped (enc := enc) (C := Tryd.checked) (os := os) (X := fun w _ => laidMetH Tryd.prog laid16 w) false (World.doorLaid Tryd.prog 24 os) #[.int .u8 0, .int .u8 0, .int .u8 0, .slice none 0 0, .slice none 0 0] 8 rfl (World.shaped_of_RefB (by kernel_rfl) (by kernel_rfl)) (by kernel_rfl) (by kernel_rfl) (by kernel_rfl) (door_met os _)) ?_
  intro W base args ds gs before hval0 hW _ _ hL _
  have hLd := of_laid hL
  have hval : ∀ (j : Nat) t v, Tryd.f5.params[j]? = some t → args[j]? = some v → Value.okWide Tryd.prog W .any base t v := hval0
  have hW' := hW
  obtain ⟨p, q, hA0, hV, rfl, hfz, hnd⟩ := hW
  have hA : DataW.TrodAll enc Tryd.prog W 0 (fun _ => true) true Tryd.f5.params.toList args.toList ds p := hA0
  rw [Tryd.params5] at hA hval
  obtain ⟨v0, vs0, d0, ds0, p0, q0, hargs, rfl, rfl, h0, r0⟩ := trodAll_cons hA
  obtain ⟨v1, vs1, d1, ds1, p1, q1, rfl, rfl, rfl, h1, r1⟩ := trodAll_cons r0
  obtain ⟨v2, vs2, d2, ds2, p2, q2, rfl, rfl, rfl, h2, r2⟩ := trodAll_cons r1
  obtain ⟨v3, vs3, d3, ds3, p3, q3, rfl, rfl, rfl, h3, r3⟩ := trodAll_cons r2
  obtain ⟨v4, vs4, d4, ds4, p4, q4, rfl, rfl, rfl, h4, r4⟩ := trodAll_cons r3
  obtain ⟨rfl, rfl, rfl⟩ := trodAll_nil r4
  obtain rfl : args = #[v0, v1, v2, v3, v4] := by cases args; simp_all
  obtain ⟨rfl, rfl⟩ := trodVars_none hV
  have k0 := h0
  have lt0 : ∀ x ∈ p0, x.block < W.heap.size := by obtain ⟨m, hm⟩ := k0; exact DataW.trod_lt m _ _ _ hm
  obtain ⟨a0, e0v, _, _, w0⟩ := open_int Tryd.underlying5 (hval 0 5 v0 rfl rfl) h0; subst e0v
  have k1 := h1
  have lt1 : ∀ x ∈ p1, x.block < W.heap.size := by obtain ⟨m, hm⟩ := k1; exact DataW.trod_lt m _ _ _ hm
  obtain ⟨a1, e1v, _, _, w1⟩ := open_int Tryd.underlying5 (hval 1 5 v1 rfl rfl) h1; subst e1v
  have k2 := h2
  have lt2 : ∀ x ∈ p2, x.block < W.heap.size := by obtain ⟨m, hm⟩ := k2; exact DataW.trod_lt m _ _ _ hm
  obtain ⟨a2, e2v, _, _, w2⟩ := open_int Tryd.underlying5 (hval 2 5 v2 rfl rfl) h2; subst e2v
  have k3 := h3
  have lt3 : ∀ x ∈ p3, x.block < W.heap.size := by obtain ⟨m, hm⟩ := k3; exact DataW.trod_lt m _ _ _ hm
  obtain ⟨A3, a3, c3, e3v, g3, m3, w3⟩ := open_bytes Tryd.underlying30 Tryd.underlying5 (by kernel_rfl) (hval 3 30 v3 rfl rfl) h3; subst e3v
  have k4 := h4
  have lt4 : ∀ x ∈ p4, x.block < W.heap.size := by obtain ⟨m, hm⟩ := k4; exact DataW.trod_lt m _ _ _ hm
  obtain ⟨A4, a4, c4, e4v, g4, m4, w4⟩ := open_bytes Tryd.underlying30 Tryd.underlying5 (by kernel_rfl) (hval 4 30 v4 rfl rfl) h4; subst e4v
  clear hA0 hval0
  refine (apart_walk W hLd a0 w0 a1 w1 a2 w2 A3 a3 c3 g3 m3 w3 A4 a4 c4 g4 m4 w4).mono fun e W' ⟨he, bel⟩ => ?_
  subst he
  exact ⟨_, rfl, _, _, _, [], _, [], hW', trodAll_mk1 (shut_bool Tryd.underlying4 _), (trodAll_cons_mk (Below.trod laidOut (by kernel_rfl) (of_decide_eq_true (by kernel_rfl)) k0 bel lt0) (trodAll_cons_mk (Below.trod laidOut (by kernel_rfl) (of_decide_eq_true (by kernel_rfl)) k1 bel lt1) (trodAll_cons_mk (Below.trod laidOut (by kernel_rfl) (of_decide_eq_true (by kernel_rfl)) k2 bel lt2) (trodAll_cons_mk (Below.trod laidOut (by kernel_rfl) (of_decide_eq_true (by kernel_rfl)) k3 bel lt3) (trodAll_cons_mk (Below.trod laidOut (by kernel_rfl) (of_decide_eq_true (by kernel_rfl)) k4 bel lt4) trodAll_mk0))))), rfl, bel.frame _, fun h => by cases h⟩
theorem over : Rows.objectApartRow.holds Tryd.pinned (OpenSpec.ofChange Rows.objectApartSpec) :=
  OpenClaim.holds_of_wide 5 Tryd.f5 rfl rfl rfl rfl rfl rfl rfl ⟨rfl, rfl, rfl, rfl, rfl⟩ rfl rfl rfl rfl rfl (by kernel_rfl) Tryd.func5 (by kernel_rfl)
    (of_decide_eq_true (by kernel_rfl)) (by unfold Func.isWrapper; first | (rw [if_pos (by decide +kernel)]; kernel_rfl) | (rw [if_neg (by decide +kernel)]; exact ⟨rfl, rfl⟩))
    (fun os started H enc _ => lifted os started H enc)
theorem proved : Rows.ObjectApartCardSaid :=
  Claim7.holds_tied_plain_at .later [] [.data, .data, .data] true (true, "c9447320ff57cce1bb3f3cabae1e8816a2dfa12256a7c525c45f8a6aebb30cda") false over (fun _ h => by cases h) (by kernel_rfl) (fun _ h => by cases h) objectApart_row_tie rfl ⟨rfl, rfl⟩ (by kernel_rfl) rfl
    (fun f fn hf hfn => by
      obtain rfl : f = 5 := Option.some.inj ((show Tryd.prog.funcNamed Rows.objectApartRow.func = some 5 by kernel_rfl).symm.trans hf) |>.symm
      obtain rfl : fn = Tryd.f5 := (Option.some.inj (Tryd.func5.symm.trans hfn)).symm
      exact ⟨by kernel_rfl, fun j t ht => by
        rw [Tryd.params5] at ht
        have hm : t ∈ [5, 5, 5, 30, 30] := by simpa using Array.mem_of_getElem? ht
        have hall : ([5, 5, 5, 30, 30].all fun u => !Tryd.prog.wantsStandIn u) = true := by kernel_rfl
        exact (show Tryd.prog.wantsStandIn t = false by simpa using List.all_eq_true.1 hall t hm)⟩)
    (by kernel_rfl)
end Go.Proofs.YtfodefgihicafaaDoor.objectApart
