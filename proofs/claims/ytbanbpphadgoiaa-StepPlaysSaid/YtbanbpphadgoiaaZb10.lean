/- Texts joined: StK RcO RdE RdF RdG InZ OpenW OpenZ. -/
import Derived.Test.YtbanbpphadgoiaaZb9
import Derived.Test.YtbanbpphadgoiaaFrame
import Derived.Test.YtbanbpphadgoiaaMmA
import Derived.Test.YtbanbpphadgoiaaMem
import Derived.Deep.Grids
/- known of layer 22 returns true. No conditions. -/
namespace Go.Proofs.Ytbanbpphadgoiaa
set_option linter.unusedVariables false
set_option linter.unusedSimpArgs false
open Go.RowKit Go.Maps
set_option maxHeartbeats 4000000
set_option maxRecDepth 100000
def kT0 : List (BitVec 64) := List.replicate 10 0#64
def kT1 : List (BitVec 64) := allocW kT0 0 2 (packH 1 0 false 0)
theorem kT_len : kT0.length = 10 ∧ kT1.length = 10 := by decide +kernel
theorem kT_obj : objF kT1 2 3 0 = some [0] := by decide +kernel
theorem kT_well : [0].all (wellN kT1 [0]) = true := by decide +kernel
theorem kT_heap : Heap kT1 [0] 0 2 := heap_of kT_obj kT_well (by rw [kT_len.2]; decide) (by rw [kT_len.2]; decide)
theorem kT_check : checkE kT1 0 2 [0] = 0 := by decide +kernel
theorem kT_roots : RootsOk [0] [(0 : Int)] := ⟨by decide, by decide⟩
theorem kT_g1 : (goS [1] 1 (NewS kT1 10) 0).map (fun r => (doneS [1] r.1, r.1.sc, r.1.c.top, r.2)) = some (false, 0, 2, 1) := by decide +kernel
theorem kT_g2 : ((reS [1] 1 (NewS kT1 10)).bind fun s => (goS [1] 1 s 1).map (fun r => (doneS [1] r.1, r.1.qs, r.1.c.top, r.1.c.T.length, r.2))) = some (true, [1], 2, 10, 2) := by decide +kernel
theorem kT_d0 : doneS [1] (NewS kT1 10) = false := by decide +kernel
theorem kT_st : stN (uintL (BitVec.ofNat 64 1)) = 1 ∧ (∀ ws m, stR [1] ws m (uintL (BitVec.ofNat 64 1)) = reS [1] 1 (NewS ws m)) := by
  have h := dec_uint_back (BitVec.ofNat 64 1) []
  rw [List.append_nil] at h
  refine ⟨by unfold stN; rw [h]; decide +kernel, fun ws m => ?_⟩
  unfold stR
  rw [h]
  have : (BitVec.ofNat 64 1).toNat = 1 := by decide +kernel
  simp only [this]
theorem kT_a : ∃ s1, goS [1] 1 (NewS kT1 10) 0 = some (s1, 1) ∧ doneS [1] s1 = false ∧ s1.sc = 0 ∧ s1.c.top = 2 ∧ reS [1] 1 (NewS kT1 10) = some s1 ∧ ∃ s2, goS [1] 1 s1 1 = some (s2, 2) ∧ doneS [1] s2 = true ∧ s2.qs = [1] ∧ s2.c.top = 2 ∧ s2.c.T.length = 10 := by
  have h1 := kT_g1
  cases hg : goS [1] 1 (NewS kT1 10) 0 with
  | none => rw [hg] at h1; cases h1
  | some z =>
    obtain ⟨s1, c1⟩ := z
    rw [hg] at h1
    simp only [Option.map_some, Option.some.injEq, Prod.mk.injEq] at h1
    obtain ⟨a1, a2, a3, rfl⟩ := h1
    have h0 := kT_d0
    have hr : reS [1] 1 (NewS kT1 10) = some s1 := by
      unfold goS at hg
      unfold reS
      rw [if_neg (by rw [h0]; simp)] at hg ⊢
      cases ho : onceS [1] (NewS kT1 10) with
      | none => rw [ho] at hg; cases hg
      | some s' =>
        rw [ho] at hg
        have hg : some (s', 0 + 1) = some (s1, 1) := hg
        injection hg with hg
        injection hg with hg
        subst hg; rfl
    refine ⟨s1, rfl, a1, a2, a3, hr, ?_⟩
    have h2 := kT_g2
    rw [hr] at h2
    simp only [Option.bind_some] at h2
    cases hg2 : goS [1] 1 s1 1 with
    | none => rw [hg2] at h2; cases h2
    | some z =>
      obtain ⟨s2, c2⟩ := z
      rw [hg2] at h2
      simp only [Option.map_some, Option.some.injEq, Prod.mk.injEq] at h2
      obtain ⟨b1, b2, b3, b4, rfl⟩ := h2
      exact ⟨s2, rfl, b1, b2, b3, b4⟩
theorem kT_si {s1 : Sc} (h : goS [1] 1 (NewS kT1 10) 0 = some (s1, 1)) : SI kT1 [0] 0 2 10 [1] s1 ∧ 1 + measS 10 [1] s1 ≤ 1000000 := by
  obtain ⟨s', c', e, h1, h2, _⟩ := law_go (R := copyC kT1 10 [1]) kT_heap kT_roots.ps (m := 10) (by decide +kernel) 1 (NewS kT1 10) 0 (law_start kT_heap (by decide))
  have e : goS [1] 1 (NewS kT1 10) 0 = some (s', c') := e
  rw [h] at e
  injection e with e
  injection e with e1 e2
  subst e1; subst e2
  have : measS 10 ([(0 : Int)].map rootP) (NewS kT1 10) = 11 := by decide +kernel
  rw [this] at h2
  exact ⟨h1.si, Nat.le_trans h2 (by decide)⟩
theorem kT_al (w : World) (B s g : Nat) (v : Value) (h : SpAt w B s g v kT0 0 0 10) : Calls Try.prog 29 #[.pointer (some ⟨s, 0, none⟩), .agg #[.int .i64 1, .int .i64 0, .bool false, .int .i64 0]] w fun r w' => r = .returned (.tuple #[.int .i64 0, .int .i64 0]) ∧ SpAt w' B s g v kT1 0 2 10 ∧ Below B w w' :=
  alloc_ok w B s g v kT0 0 0 10 h (by rw [kT_len.1]; decide) 1 0 0 2 (by decide) (by decide) (by decide) (by decide)
theorem kT_kw : ∀ r ∈ [(0 : Int)], kW r := by
  intro r hr
  simp only [List.mem_cons, List.not_mem_nil, or_false] at hr
  subst hr; unfold kW; decide
theorem SpAt.low {w : World} {B B' s g : Nat} {v : Value} {ws : List (BitVec 64)} {b t e : Nat} (h : SpAt w B s g v ws b t e) (hB : B' ≤ B) : SpAt w B' s g v ws b t e :=
  ⟨⟨h.mem.blk, Nat.le_trans hB h.mem.ge, h.mem.row.mono hB, h.mem.ne⟩, h.blk, h.sg, h.sv, Nat.le_trans hB h.hs, h.bt, h.te, h.el⟩
theorem rd_z2 {w : World} {k : Nat} {E : TypeId} {xs : List Int} (h : Bk w k E (xs.map zV).toArray) : Rd zV w w.heap.size (some ⟨k, 0, none⟩) xs := fun j hj => by
  refine ⟨⟨k, 0, none⟩, rfl, h.lt, ?_⟩
  have h2 := h.cell j
  rw [show (⟨k, 0, none⟩ : Addr).add (j : Nat) = ⟨k, j, none⟩ from by simp [Addr.add]; exact fun h => h.symm]
  rw [h2]
  simp [hj]
theorem kT_res (W : World) (B s g : Nat) (v : Value) (h : SpAt W B s g v kT1 0 2 10) (A : Option Addr) (ca : Nat) (hr : Rd zV W W.heap.size A [0]) (A2 : Option Addr) (st : List (BitVec 8)) (c2 : Nat) (hst : Rd b8 W W.heap.size A2 st) (hl : st.length ≤ 1073741824) (s1 : Sc) (h1 : stN st = 1) (h2 : stR [1] kT1 10 st = some s1) :
    Calls Try.prog 13 #[.pointer (some ⟨s, 0, none⟩), .slice A 1 ca, .int .i64 10, .slice A2 st.length c2] W fun r w' => ∃ (S : Nat → Prop) (Q : Nat) (f : CoF) (xw : Value), r = .returned (.tuple #[.pointer (some ⟨Q, 0, none⟩), .int .i64 0]) ∧ CoAt w' W.heap.size S Q f [0] xw s1 1 false ∧ f.b = 0 ∧ f.t = 2 ∧ Below W.heap.size W w' := by
  have k := resume_c W B s g v kT1 0 2 10 h (by rw [kT_len.2]; decide) [0] kT_heap A [0] ca hr kT_roots kT_kw 10 (by decide) kT_check A2 st c2 hst hl
  rw [h1, show stR ([(0 : Int)].map rootP) kT1 10 st = some s1 from h2] at k
  exact k
theorem kT_new (W : World) (B s g : Nat) (v : Value) (h : SpAt W B s g v kT1 0 2 10) (A : Option Addr) (ca : Nat) (hr : Rd zV W W.heap.size A [0]) :
    Calls Try.prog 10 #[.pointer (some ⟨s, 0, none⟩), .slice A 1 ca, .int .i64 10] W fun r w' => ∃ (S : Nat → Prop) (Q : Nat) (f : CoF) (xw : Value), r = .returned (.tuple #[.pointer (some ⟨Q, 0, none⟩), .int .i64 0]) ∧ CoAt w' W.heap.size S Q f [0] xw (NewS kT1 10) 0 false ∧ f.b = 0 ∧ f.t = 2 ∧ Below W.heap.size W w' :=
  snew_ok W B s g v kT1 0 2 10 h (by rw [kT_len.2]; decide) A [0] ca hr (by decide) kT_kw 10 (by decide) kT_check
theorem known22_c (w : World) : Calls Try.prog 8 #[] w (RetP (.bool true) w) := by
  obtain ⟨s1, g1, d1, sc1, tp1, r1, s2, g2, d2, q2, tp2, l2⟩ := kT_a
  have HPur := Lib.hid (And.intro g1 (And.intro d1 (And.intro sc1 (And.intro tp1 (And.intro r1 (And.intro g2 (And.intro d2 (And.intro q2 (And.intro tp2 l2)))))))))
  clear g1 d1 sc1 tp1 r1 g2 d2 q2 tp2 l2
  have HN := Lib.hid (new_in w 10 (by decide))
  have HS := Lib.hid (fun W g v (h : MemAt W w.heap.size g v kT0) => snew_in W w.heap.size g v kT0 0 10 h (by decide) (by rw [kT_len.1]; decide) (by rw [kT_len.1]; decide))
  have HA := Lib.hid (fun W s g v (h : SpAt W w.heap.size s g v kT0 0 0 10) => kT_al W w.heap.size s g v h)
  have HCn := Lib.hid (fun W s g v (h : SpAt W w.heap.size s g v kT1 0 2 10) A ca (hr : Rd zV W W.heap.size A [0]) => kT_new W w.heap.size s g v h A ca hr)
  obtain ⟨st, hst⟩ : ∃ st, st = uintL (BitVec.ofNat 64 1) := ⟨_, rfl⟩
  have hs1 : stN st = 1 ∧ stR [1] kT1 10 st = some s1 ∧ st.length ≤ 1073741824 := by
    rw [hst]
    exact ⟨kT_st.1, (kT_st.2 kT1 10).trans HPur.out.2.2.2.2.1, by have := uintF_len 9 (BitVec.ofNat 64 1); unfold uintL; omega⟩
  have HSt := Lib.hid hst
  have HRs := Lib.hid (fun W s g v (h : SpAt W w.heap.size s g v kT1 0 2 10) A ca (hr : Rd zV W W.heap.size A [0]) A2 c2 (hst : Rd b8 W W.heap.size A2 st) => kT_res W w.heap.size s g v h A ca hr A2 st c2 hst hs1.2.2 s1 hs1.1 hs1.2.1)
  clear hst hs1
  go_enter Try.func8, Try.ntmps8
  go_wp2_with fail
  refine Calls.mono HN.out ?_
  rintro r w2 ⟨g, v, rfl, hm2, b2⟩
  have H2 := Lib.hid (And.intro hm2 b2)
  clear hm2 b2
  go_wp2_with fail
  refine Calls.mono (HS.out w2 g v H2.out.1) ?_
  rintro r w3 ⟨s, rfl, hp3, b3⟩
  have H3 := Lib.hid (And.intro hp3 (H2.out.2.trans (b3.mono H2.out.2.size)))
  have c0 := hp3.four.1
  clear hp3 b3
  go_wp2_with fail
  refine Calls.mono (HA.out w3 s g v H3.out.1) ?_
  rintro r w4 ⟨rfl, hp4, b4⟩
  have H4 := Lib.hid (And.intro hp4 (H3.out.2.trans b4))
  clear hp4 b4 c0
  go_wp2_with fail
  have hb5 := Gw.alloc w4 (.cells #[.int .i64 0] 3)
  have hr5 := rd_z2 (xs := [0]) (Bk.new w4 3 #[.int .i64 0])
  have H5 := Lib.hid (And.intro (H4.out.1.below hb5) (H4.out.2.alloc H4.out.2.size (.cells #[.int .i64 0] 3)))
  refine Calls.mono (HCn.out _ s g v H5.out.1 _ _ hr5) ?_
  rintro r w6 ⟨S, Q, f, xw, rfl, p6, fb, ft, b6⟩
  obtain ⟨B5, hB5⟩ : ∃ B, B = (w4.alloc (.cells #[.int .i64 0] 3)).heap.size := ⟨_, rfl⟩
  rw [← hB5] at p6 b6
  have H6 := Lib.hid (And.intro p6 (And.intro fb (And.intro ft (And.intro (show SpAt w6 w.heap.size s g v kT1 0 2 10 from H5.out.1.below (hB5 ▸ b6)) (And.intro (H5.out.2.trans ((hB5 ▸ b6).mono H5.out.2.size)) (show w.heap.size ≤ B5 from hB5 ▸ H5.out.2.size))))))
  have H6b := Lib.hid (show B5 ≤ w6.heap.size by rw [hB5]; exact b6.size)
  have HLt := Lib.hid (show s < B5 ∧ g < B5 ∧ (∀ k, v.ownBlock = some k → k < B5) from hB5 ▸ ⟨H5.out.1.blk.lt, H5.out.1.mem.blk.lt, fun k hk => (H5.out.1.mem.row.lt k hk).2⟩)
  clear hb5 hr5 p6 fb ft b6 hB5
  go_wp2_with fail
  refine Calls.mono (result_busy w6 H6.out.1 (by decide) (by decide) kT_d0) ?_
  rintro r w7 ⟨rfl, b7⟩
  have H7 := Lib.hid b7
  clear b7
  go_wp2_with fail
  have hst7 := step_c w7 0 (f := f) (l := [0]) (ws := kT1) (m := 10) (by rw [H6.out.2.1, H6.out.2.2.1]; exact kT_heap) kT_roots (H6.out.1.below H7.out) (by rw [H6.out.2.1, H6.out.2.2.1]; exact si_start kT_heap (by decide)) 1 (by decide) (by decide)
  rw [show goS ([(0 : Int)].map rootP) (1 : Int).toNat (NewS kT1 10) 0 = some (s1, 1) from HPur.out.1] at hst7
  have HSt7 := Lib.hid (show Calls Try.prog 15 #[.pointer (some ⟨Q, 0, none⟩), .int .i64 1] w7 (fun r w' => r = .returned (.tuple #[.bool false, .int .i64 0]) ∧ Kept S w7 w' ∧ ∃ (S' : Nat → Prop) (xw' : Value), CoAt w' B5 S' Q f [0] xw' s1 1 false ∧ ∀ k, S' k → S k ∨ w7.heap.size ≤ k) from by have h := hst7; unfold StepP at h; simp only at h; rw [show doneS ([(0 : Int)].map rootP) s1 = false from HPur.out.2.1] at h; exact h)
  clear hst7
  refine Calls.mono HSt7.out ?_
  rintro r w8 ⟨rfl, k8, S8, xw8, p8, n8⟩
  have hb8 : Below B5 w7 w8 := k8.below (Nat.le_trans H6b.out H7.out.size) (fun k hk => (H6.out.1.own k hk).1)
  have hb78 : Below B5 w6 w8 := (H7.out.mono H6b.out).trans hb8
  have hsp8 : SpAt w8 w.heap.size s g v kT1 0 2 10 := by
    have h := H6.out.2.2.2.1
    exact h.kept (Kept.of_below H7.out (fun _ => False)) (fun h => h) (fun h => h) (fun _ _ h => h) |>.kept k8 (fun h => by have := (H6.out.1.own _ h).1; have := HLt.out.1; omega) (fun h => by have := (H6.out.1.own _ h).1; have := HLt.out.2.1; omega) (fun j hj h => by have := (H6.out.1.own _ h).1; have := HLt.out.2.2 j hj; omega)
  have H8 := Lib.hid (And.intro p8 (And.intro hsp8 (H6.out.2.2.2.2.1.trans (hb78.mono H6.out.2.2.2.2.2))))
  clear k8 p8 n8 hb8 hb78 hsp8 HSt7
  go_wp2_with fail
  have hb9 := Gw.alloc w8 (.cells #[.int .i64 0] 3)
  have hr9 := rd_z2 (xs := [0]) (Bk.new w8 3 #[.int .i64 0])
  obtain ⟨w9, hw9⟩ : ∃ w9, w9 = w8.alloc (.cells #[.int .i64 0] 3) := ⟨_, rfl⟩
  rw [← hw9] at hb9 hr9 ⊢
  have H9 := Lib.hid (And.intro (H8.out.1.below hb9) (And.intro (H8.out.2.1.below hb9) (And.intro (H8.out.2.2.trans (hb9.mono H8.out.2.2.size)) hr9)))
  clear hw9 hb9 hr9
  refine Calls.mono (state_c w9 1 (by decide) H9.out.1) ?_
  rintro r w10 ⟨A10, c10, rfl, h10, r10, b10, a10⟩
  rw [← HSt.out] at r10 ⊢
  have H10 := Lib.hid (And.intro (H9.out.1.below b10) (And.intro (H9.out.2.1.below b10) (And.intro (H9.out.2.2.1.trans (b10.mono H9.out.2.2.1.size)) (And.intro ((H9.out.2.2.2.below b10).more b10.size) r10))))
  clear h10 r10 b10 a10
  go_wp2_with fail
  refine Calls.mono (HRs.out w10 s g v H10.out.2.1 _ _ H10.out.2.2.2.1 _ _ H10.out.2.2.2.2) ?_
  rintro r w11 ⟨Sd, Qd, fd, xd, rfl, p11, fdb, fdt, b11⟩
  have H11 := Lib.hid (And.intro p11 (And.intro (H10.out.1.below b11) (And.intro (H10.out.2.2.1.trans (b11.mono H10.out.2.2.1.size)) (And.intro fdb fdt))))
  have H11b := Lib.hid (show w10.heap.size ≤ w11.heap.size from b11.size)
  have H10w := Lib.hid (show w.heap.size ≤ w10.heap.size from H10.out.2.2.1.size)
  clear p11 fdb fdt b11
  go_wp2_with fail
  have hsi := kT_si HPur.out.1
  have hst := step_c w11 1 (f := fd) (l := [0]) (ws := kT1) (m := 10) (by rw [H11.out.2.2.2.1, H11.out.2.2.2.2]; exact kT_heap) kT_roots H11.out.1 (by rw [H11.out.2.2.2.1, H11.out.2.2.2.2]; exact hsi.1) 1 (by decide) hsi.2
  rw [show goS ([(0 : Int)].map rootP) (1 : Int).toNat s1 1 = some (s2, 2) from HPur.out.2.2.2.2.2.1] at hst
  have HSd := Lib.hid (show Calls Try.prog 15 #[.pointer (some ⟨Qd, 0, none⟩), .int .i64 1] w11 (fun r w' => r = .returned (.tuple #[.bool true, .int .i64 0]) ∧ Kept Sd w11 w' ∧ ∃ (S' : Nat → Prop) (xw' : Value), CoAt w' w10.heap.size S' Qd fd [0] xw' s2 2 false ∧ ∀ k, S' k → Sd k ∨ w11.heap.size ≤ k) from by have h := hst; unfold StepP at h; simp only at h; rw [show doneS ([(0 : Int)].map rootP) s2 = true from HPur.out.2.2.2.2.2.2.1] at h; exact h)
  clear hst hsi
  refine Calls.mono HSd.out ?_
  rintro r w12 ⟨rfl, k12, S12, x12, p12, n12⟩
  have H12 := Lib.hid (And.intro p12 (And.intro (H11.out.2.1.kept k12 (fun j hj h => by have h1 := (H10.out.1.own j hj).2; have h2 := (H11.out.1.own j h).1; omega)) (H11.out.2.2.1.trans ((k12.below H11b.out (fun k hk => (H11.out.1.own k hk).1)).mono H10w.out))))
  clear k12 p12 n12 HSd
  go_wp2_with fail
  have HRt := result_c w12 H12.out.1 (by decide) (by rw [HPur.out.2.2.2.2.2.2.2.1]; decide) (by rw [HPur.out.2.2.2.2.2.2.2.2.2]; decide) HPur.out.2.2.2.2.2.2.1
  rw [HPur.out.2.2.2.2.2.2.2.1, HPur.out.2.2.2.2.2.2.2.2.1] at HRt
  refine Calls.mono HRt ?_
  rintro r w13 ⟨s', g', v', A13, c13, rfl, hp13, ho13, b13⟩
  have ht13 := hp13.four.2.2.1
  obtain ⟨ad, rfl, hlt, hcell⟩ := ho13.rd 0 (by decide)
  have e0 : w13.cell? ad = some (.int .i64 0) := hcell
  have HScn := Lib.hid (fun W (hb : Below w13.heap.size w13 W) => scscan_c W ((H12.out.2.1.below b13).below hb))
  have HFre := Lib.hid (fun W (hb : Below w13.heap.size w13 W) => scfree_c W ((H12.out.2.1.below b13).below hb))
  have HDn := Lib.hid (fun W (hb : Below w13.heap.size w13 W) => done_c W ((H12.out.1.below b13).below hb) (by decide) (by rw [HPur.out.2.2.2.2.2.2.2.1]; decide))
  rw [HPur.out.2.2.1] at HScn
  rw [HPur.out.2.2.2.1] at HFre
  rw [show decide (s2.qs.length = [(0 : Int)].length ∧ s2.sc = s2.c.top) = true from HPur.out.2.2.2.2.2.2.1] at HDn
  have HB13 := Lib.hid (H12.out.2.2.trans (b13.mono H12.out.2.2.size))
  have hs13 := hp13.blk.lt
  clear hp13 ho13 b13 hcell HRt
  go_wp2_with fail
  refine Calls.mono (HScn.out w13 (Below.refl _ _)) ?_
  rintro r w14 ⟨rfl, b14⟩
  have H14 := Lib.hid b14
  have e0 := (b14.cell (p := ad) hlt).trans e0
  have ht14 := (b14.cell (p := ⟨s', 2, none⟩) hs13).trans ht13
  clear b14 ht13
  go_wp2_with fail
  refine Calls.mono (HFre.out w14 H14.out) ?_
  rintro r w15 ⟨rfl, b15⟩
  have H15 := Lib.hid (H14.out.trans (b15.mono H14.out.size))
  have e0 := (b15.cell (p := ad) (Nat.lt_of_lt_of_le hlt H14.out.size)).trans e0
  have ht15 := (b15.cell (p := ⟨s', 2, none⟩) (Nat.lt_of_lt_of_le hs13 H14.out.size)).trans ht14
  clear b15 ht14
  go_wp2_with fail
  refine Calls.mono (HDn.out w15 H15.out) ?_
  rintro r w16 ⟨rfl, b16⟩
  have H16 := Lib.hid (H15.out.trans (b16.mono H15.out.size))
  have e0 := (b16.cell (p := ad) (Nat.lt_of_lt_of_le hlt H15.out.size)).trans e0
  have ht16 := (b16.cell (p := ⟨s', 2, none⟩) (Nat.lt_of_lt_of_le hs13 H15.out.size)).trans ht15
  clear b16 ht15
  go_wp2_with fail
  go_ret
  exact ⟨rfl, HB13.out.trans (H16.out.mono HB13.out.size)⟩
end Go.Proofs.Ytbanbpphadgoiaa
/- The reference's Copy where it says no; both copies side by side. Conditions: lengths. -/
namespace Go.Proofs.Ytbanbpphadgoiaa
set_option linter.unusedVariables false
set_option linter.unusedSimpArgs false
open Go.RowKit Go.Maps
set_option maxHeartbeats 4000000
set_option maxRecDepth 100000
theorem rcopy_words (w : World) (R : Nat) (A2 : Option Addr) (n c2 : Nat) (words : Int) (h : words < 0 ∨ 8192 < words) :
    Calls Try.prog 11 #[.pointer (some ⟨R, 0, none⟩), .slice A2 n c2, .int .i64 words] w (RetP (.tuple #[.pointer none, .slice none 0 0, .int .i64 1]) w) := by
  go_enter Try.func11, Try.ntmps11
  by_cases h1 : words < 0
  · go_wp2_with fail
    go_ret3
    exact ⟨rfl, Below.refl _ _⟩
  · have h2 : 8192 < words := by omega
    go_wp2_with fail
    go_ret3
    exact ⟨rfl, Below.refl _ _⟩
theorem rcopy_bad (w : World) (R : Nat) (A : Option Addr) (c : Nat) (ws : List (BitVec 64)) (b t e : Nat) (p : RefAt w R A c ws b t e) (hbt : b ≤ t) (htw : t ≤ ws.length) (hl : ws.length ≤ 8192) (l : List Nat) (ho : objF ws t (t + 1) b = some l) (A2 : Option Addr) (roots : List Int) (c2 : Nat) (hr : Rd zV w w.heap.size A2 roots) (hrl : roots.length ≤ 100000) (m : Nat) (hm : m ≤ 8192) (hE : checkE ws b t roots ≠ 0) :
    Calls Try.prog 11 #[.pointer (some ⟨R, 0, none⟩), .slice A2 roots.length c2, .int .i64 m] w (RetP (.tuple #[.pointer none, .slice none 0 0, .int .i64 (checkE ws b t roots)]) w) := by
  have HWl := Lib.hid (rwell_c w R A c ws b t e p hbt htw hl)
  rw [well_some ho] at HWl
  have HRt := Lib.hid (fun W (hb : Below w.heap.size w W) => rroots_c W R A c ws b t e (p.below hb) hbt htw hl l ho A2 roots c2 ((hr.below hb).more hb.size) hrl)
  have m0 : (0 : Int) ≤ (m : Int) := by omega
  have m8 : (m : Int) ≤ 8192 := by omega
  unfold checkE at hE ⊢
  rw [ho] at hE ⊢
  simp only at hE ⊢
  obtain ⟨n, hn⟩ : ∃ n, n = roots.length := ⟨_, rfl⟩
  rw [← hn] at HRt ⊢
  by_cases hw : l.all (wellN ws l) = true
  · rw [if_pos hw] at HWl hE ⊢
    by_cases hra : roots.all (rootB l) = true
    · rw [if_pos hra] at hE; exact absurd rfl hE
    · rw [if_neg hra]
      have hrf : roots.all (rootB l) = false := by simpa using hra
      rw [hrf] at HRt
      clear p hbt htw hl ho hr hrl hE hw hra hrf hn
      go_enter Try.func11, Try.ntmps11
      go_wp2_with fail
      refine Calls.mono HWl.out ?_
      rintro r w1 ⟨rfl, b1⟩
      have H1 := Lib.hid b1
      clear b1
      go_wp2_with fail
      refine Calls.mono (HRt.out w1 H1.out) ?_
      rintro r w2 ⟨rfl, b2⟩
      have H2 := Lib.hid (H1.out.trans (b2.mono H1.out.size))
      clear b2
      go_wp2_with fail
      go_ret3
      exact ⟨rfl, H2.out⟩
  · rw [if_neg hw] at HWl ⊢
    clear p hbt htw hl ho hr hrl hE hw hn HRt
    go_enter Try.func11, Try.ntmps11
    go_wp2_with fail
    refine Calls.mono HWl.out ?_
    rintro r w1 ⟨rfl, b1⟩
    have H1 := Lib.hid b1
    clear b1
    go_wp2_with fail
    go_ret3
    exact ⟨rfl, H1.out⟩
section
variable {w : World} {B s g R : Nat} {v : Value} {ws : List (BitVec 64)} {b t e : Nat} {A : Option Addr} {c : Nat} {l : List Nat} {A2 : Option Addr} {roots : List Int} {c2 : Nat}
end
end Go.Proofs.Ytbanbpphadgoiaa
/- StepPlays: what is kept from step to step; the great test. Conditions: right objects. -/
namespace Go.Proofs.Ytbanbpphadgoiaa
set_option linter.unusedVariables false
set_option linter.unusedSimpArgs false
open Go.RowKit Go.Maps
set_option maxHeartbeats 4000000
set_option maxRecDepth 100000
section
variable {Fo Fo' S S2 S' : Nat → Prop} {W W' : World} {B B' B0 X R N Pb : Nat} {rA : Option Addr} {rc : Nat} {ws : List (BitVec 64)} {b t e : Nat} {l : List Nat} {m : Nat} {A2 : Option Addr} {M c2 : Nat} {full : Bool} {s : Sc} {c : Cy} {scan : Nat} {Q : Nat} {f : CoF} {roots : List Int} {xw : Value} {n : Int}
theorem CoAt.low (h : CoAt W B S Q f roots xw s n full) (hB : B' ≤ B) : CoAt W B' S Q f roots xw s n full :=
  ⟨⟨h.cy.blk, h.cy.fr, h.cy.to_.low hB, h.cy.g2H, h.cy.v2H, h.cy.s2H, h.cy.s1C, h.cy.g1C, h.cy.v1C, h.cy.HC, Nat.le_trans hB h.cy.BH⟩, h.blk, h.rr, h.ww, h.CQ, h.ne, h.neR, fun k hk => ⟨Nat.le_trans hB (h.own k hk).1, (h.own k hk).2⟩, h.inc⟩
theorem RS.kept2 (h : RS Fo W B X R N rA rc ws b t e l m c scan full) (k : Kept S' W W') (hS : ∀ j, S' j → Fo j ∧ B0 ≤ j) (hB0 : B0 ≤ W.heap.size) (hR : R < B0) (hA : ∀ ad, rA = some ad → ws ≠ [] → ad.block < B0) (hF : ∀ k, Fo' k → Fo k ∨ (W.heap.size ≤ k ∧ k < W'.heap.size)) : RS Fo' W' B X R N rA rc ws b t e l m c scan full := by
  obtain ⟨nA, nc, fv, tv, us, h1, h2, h3, h4, h5⟩ := h
  refine ⟨nA, nc, fv, tv, us, ⟨h1.src.belowB (k.below hB0 (fun j hj => (hS j hj).2)) k.size hR hA, h1.RB, h1.rB, k.bk h1.blk (fun e => (h5 _ (hS _ e).1).2 (.inl rfl)), k.bk h1.nw (fun e => (h5 _ (hS _ e).1).2 (.inr (.inl rfl))), k.ow h1.row (fun j hj e => (h5 _ (hS j e).1).2 (.inr (.inr (.inr (.inr hj))))), k.ow h1.fr (fun j hj e => (h5 _ (hS j e).1).2 (.inr (.inr (.inl hj)))), k.ow h1.to_ (fun j hj e => (h5 _ (hS j e).1).2 (.inr (.inr (.inr (.inl hj))))), h1.XN, h1.ap, h1.ap2, h1.ap3⟩, h2, h3, h4, fun j hj => ?_⟩
  rcases hF j hj with h | h
  · exact ⟨Nat.lt_of_lt_of_le (h5 j h).1 k.size, (h5 j h).2⟩
  · exact ⟨h.2, fun e => by have := h1.own_lt e; omega⟩
/-- What a collector does, beside the document's one. -/
theorem PaAt.kept2 (h : PaAt S W B X R N Pb rA rc ws b t e l m A2 M c2 full s) (k : Kept S W W') (hS : ∀ j, S j → B0 ≤ j) (hB0 : B0 ≤ W.heap.size) (hR : R < B0) (hA : ∀ ad, rA = some ad → ws ≠ [] → ad.block < B0) (hF : ∀ k, S2 k → S k ∨ (W.heap.size ≤ k ∧ k < W'.heap.size)) : PaAt S2 W' B X R N Pb rA rc ws b t e l m A2 M c2 full s := by
  obtain ⟨ov, xs, h1, h2, h3, h4, h5, h6, h7⟩ := h
  refine ⟨ov, xs, h1.kept2 k (fun j hj => ⟨.inl hj, hS j hj⟩) hB0 hR hA (fun j hj => ?_), k.bk h2 h5, k.ow h3 (fun j hj e => (h4 j hj).2 e), fun j hj => ⟨(h4 j hj).1, fun e => ?_⟩, fun e => ?_, h6, h7⟩
  · rcases hj with hj | hj
    · rcases hF j hj with h | h
      · exact .inl (.inl h)
      · exact .inr h
    · exact .inl (.inr hj)
  · rcases hF j e with h | h
    · exact (h4 j hj).2 h
    · have := (h3.lt j hj).2; omega
  · rcases hF Pb e with h | h
    · exact h5 h
    · have := h2.lt; omega
theorem PaAt.swap (h : PaAt S W B X R N Pb rA rc ws b t e l m A2 M c2 full s) (hb : Below W.heap.size W W') (hF : ∀ k, S2 k → W.heap.size ≤ k ∧ k < W'.heap.size) : PaAt S2 W' B X R N Pb rA rc ws b t e l m A2 M c2 full s := by
  obtain ⟨ov, xs, h1, h2, h3, h4, h5, h6, h7⟩ := h
  refine ⟨ov, xs, h1.widen hb (fun j hj => ?_), h2.below hb h2.lt, h3.below hb, fun j hj => ⟨(h4 j hj).1, fun e => ?_⟩, fun e => ?_, h6, h7⟩
  · rcases hj with hj | hj
    · exact .inr (hF j hj)
    · exact .inl (.inr hj)
  · have := (hF j e).1; have := (h3.lt j hj).2; omega
  · have := (hF Pb e).1; have := h2.lt; omega
theorem PaAt.cells (h : PaAt S W B X R N Pb rA rc ws b t e l m A2 M c2 full s) : Pb < W.heap.size ∧ X < W.heap.size ∧ N < W.heap.size ∧ W.cell? ⟨Pb, 0, none⟩ = some (.pointer (some ⟨X, 0, none⟩)) ∧ W.cell? ⟨X, 1, none⟩ = some (.pointer (some ⟨N, 0, none⟩)) ∧ W.cell? ⟨X, 4, none⟩ = some (.int .i64 (s.sc : Int)) ∧ W.cell? ⟨X, 5, none⟩ = some (.bool full) ∧ W.cell? ⟨N, 2, none⟩ = some (.int .i64 (s.c.top : Int)) := by
  obtain ⟨ov, xs, h1, h2, h3, h4, h5, h6, h7⟩ := h
  obtain ⟨A, nc, hX, hN, x1, x4, x5, n0, n2, _⟩ := h1.cells
  exact ⟨h2.lt, hX, hN, h2.cell 0, x1, x4, x5, n2⟩
/-- At the end: the new space, and the roots' row. -/
theorem PaAt.last (h : PaAt S W B X R N Pb rA rc ws b t e l m A2 M c2 false s) : ∃ oA oc nA nc, W.cell? ⟨Pb, 2, none⟩ = some (.slice oA s.qs.length oc) ∧ Rd zV W W.heap.size oA (backZ s.qs) ∧ RefAt W N nA nc s.c.T 0 s.c.top s.c.T.length := by
  obtain ⟨ov, xs, h1, h2, h3, h4, h5, h6, h7⟩ := h
  obtain ⟨nA, nc, fv, tv, us, r1, r2, r3, r4, r5⟩ := h1
  obtain ⟨oA, oc, rfl, _⟩ := h3.form
  have hx := h7 rfl
  have hxl : xs.length = s.qs.length := by rw [hx]; simp [backZ]
  have hr := h3.rd
  rw [hx] at hr
  rw [hxl] at h2
  exact ⟨oA, oc, nA, nc, h2.cell 2, hr, r1.nw, r1.row.rd⟩
end
theorem r34 (Q : Exit → Act → World → Prop) (a0 : Act) (w : World) (s R Cq Pb X N : Nat) (dn : Bool) (sc tp : Int) (hP : Pb < w.heap.size) (hX : X < w.heap.size) (hN : N < w.heap.size) (p0 : w.cell? ⟨Pb, 0, none⟩ = some (.pointer (some ⟨X, 0, none⟩))) (x1 : w.cell? ⟨X, 1, none⟩ = some (.pointer (some ⟨N, 0, none⟩))) (x4 : w.cell? ⟨X, 4, none⟩ = some (.int .i64 sc)) (n2 : w.cell? ⟨N, 2, none⟩ = some (.int .i64 tp)) (hpd : Hid (∀ W, Below w.heap.size w W → Calls Try.prog 18 #[.pointer (some ⟨Pb, 0, none⟩)] W (RetP (.bool dn) W))) (hcd : Hid (∀ W, Below w.heap.size w W → Calls Try.prog 19 #[.pointer (some ⟨Cq, 0, none⟩)] W (RetP (.bool dn) W))) (hcs : Hid (∀ W, Below w.heap.size w W → Calls Try.prog 20 #[.pointer (some ⟨Cq, 0, none⟩)] W (RetP (.int .i64 sc) W))) (hcf : Hid (∀ W, Below w.heap.size w W → Calls Try.prog 21 #[.pointer (some ⟨Cq, 0, none⟩)] W (RetP (.int .i64 tp) W))) (hsm : Hid (∀ W, Below w.heap.size w W → Calls Try.prog 22 #[.pointer (some ⟨s, 0, none⟩), .pointer (some ⟨R, 0, none⟩)] W (RetP (.bool true) W))) (hsz : a0.tmps.size = 286) (sl13 : a0.tmps.getD 13 undef = .pointer (some ⟨s, 0, none⟩)) (sl14 : a0.tmps.getD 14 undef = .pointer (some ⟨R, 0, none⟩)) (sl15 : a0.tmps.getD 15 undef = .pointer (some ⟨Cq, 0, none⟩)) (sl20 : a0.tmps.getD 20 undef = .pointer (some ⟨Pb, 0, none⟩)) (sl25 : a0.tmps.getD 25 undef = .bool dn) (sl26 : a0.tmps.getD 26 undef = .int .i64 0)
    (fin : ∀ (vals : Nat → Value) (w1 : World), Below w.heap.size w w1 → (IsV (.bool false)) (vals 47) w1 → Q .normal (putD vals [206, 207, 208, 209, 210, 211, 212, 213, 214, 215, 216, 217, 218, 219, 220, 221, 222, 223, 224, 225, 226, 227, 228, 229, 230, 231, 232, 233, 234, 235, 236, 237, 238, 239, 240, 241, 242, 243, 244, 245, 246, 247, 248, 249, 250, 251, 252, 253] 0 a0) w1) :
    (Code.region 34 (regIn Try.f3 34) true).wp Try.prog Q a0 w := by
  refine region_by (G := fun w w1 => Below w.heap.size w w1) [IsV (.int .i64 0),
    IsV (.bool false),
    IsV (.bool false),
    IsV (.bool dn),
    IsV (.pointer (some ⟨Pb, 0, none⟩)),
    IsV (.bool dn),
    IsV (.bool false),
    IsV (.bool false),
    IsV (.bool false),
    IsV (.pointer (some ⟨Cq, 0, none⟩)),
    IsV (.bool dn),
    IsV (.pointer (some ⟨Pb, 0, none⟩)),
    IsV (.bool dn),
    IsV (.bool false),
    IsV (.bool false),
    IsV (.bool false),
    IsV (.pointer (some ⟨Cq, 0, none⟩)),
    IsV (.int .i64 sc),
    IsV (.pointer (some ⟨Pb, 0, none⟩)),
    IsV (.pointer (some ⟨Pb, 0, none⟩)),
    IsV (.pointer (some ⟨Pb, 0, none⟩)),
    IsV (.pointer (some ⟨X, 0, none⟩)),
    IsV (.pointer (some ⟨X, 0, none⟩)),
    IsV (.pointer (some ⟨X, 4, none⟩)),
    IsV (.int .i64 sc),
    IsV (.bool false),
    IsV (.bool false),
    IsV (.bool false),
    IsV (.pointer (some ⟨Cq, 0, none⟩)),
    IsV (.int .i64 tp),
    IsV (.pointer (some ⟨Pb, 0, none⟩)),
    IsV (.pointer (some ⟨Pb, 0, none⟩)),
    IsV (.pointer (some ⟨Pb, 0, none⟩)),
    IsV (.pointer (some ⟨X, 0, none⟩)),
    IsV (.pointer (some ⟨X, 0, none⟩)),
    IsV (.pointer (some ⟨X, 1, none⟩)),
    IsV (.pointer (some ⟨N, 0, none⟩)),
    IsV (.pointer (some ⟨N, 0, none⟩)),
    IsV (.pointer (some ⟨N, 2, none⟩)),
    IsV (.int .i64 tp),
    IsV (.bool false),
    IsV (.bool false),
    IsV (.bool false),
    IsV (.pointer (some ⟨s, 0, none⟩)),
    IsV (.pointer (some ⟨R, 0, none⟩)),
    IsV (.bool true),
    IsV (.bool false),
    IsV (.bool false)]
    [206, 207, 208, 209, 210, 211, 212, 213, 214, 215, 216, 217, 218, 219, 220, 221, 222, 223, 224, 225, 226, 227, 228, 229, 230, 231, 232, 233, 234, 235, 236, 237, 238, 239, 240, 241, 242, 243, 244, 245, 246, 247, 248, 249, 250, 251, 252, 253] (by kernel_rfl) (Gw.drew _) Gw.trans (by rw [hsz]; kernel_rfl) (by kernel_rfl) ?_ ?_ ?_
  · intro f hf
    simp only [List.mem_cons, List.not_mem_nil, or_false] at hf
    rcases hf with rfl | rfl | rfl | rfl | rfl | rfl | rfl | rfl | rfl | rfl | rfl | rfl | rfl | rfl | rfl | rfl | rfl | rfl | rfl | rfl | rfl | rfl | rfl | rfl | rfl | rfl | rfl | rfl | rfl | rfl | rfl | rfl | rfl | rfl | rfl | rfl | rfl | rfl | rfl | rfl | rfl | rfl | rfl | rfl | rfl | rfl | rfl | rfl <;> intro v a b h g <;> first | exact IsV.mono h
  · refine ⟨?_, ?_, ?_, ?_, ?_, ?_, ?_, ?_, ?_, ?_, ?_, ?_, ?_, ?_, ?_, ?_, ?_, ?_, ?_, ?_, ?_, ?_, ?_, ?_, ?_, ?_, ?_, ?_, ?_, ?_, ?_, ?_, ?_, ?_, ?_, ?_, ?_, ?_, ?_, ?_, ?_, ?_, ?_, ?_, ?_, ?_, ?_, ?_, trivial⟩
    · exact owes_mv 26 (by kernel_rfl) (by kernel_rfl) (by kernel_rfl) sl26 (fun _ => rfl)
    · refine owes_v (Go.Op.binOp Go.BinOp.neq 3 (Go.Operand.tmp 206) (Go.Operand.const (Go.Value.int Go.IntKind.i64 0)) 3) 4 [0] (by kernel_rfl) (by kernel_rfl) (by kernel_rfl) rfl fun vals w1 ρ hG hF hρ hcst hfun => ?_
      have e206 : ρ (.tmp 206) = .int .i64 0 := ((hρ 206).trans (slotJ [0] (by rw [hsz]; decide) (by kernel_rfl))).trans (hF 0 (by decide))
      clear hρ hF hfun sl13 sl14 sl15 sl20 sl25 sl26 fin
      exact opv_val (by go_simp <;> rfl) ⟨gw_self _, rfl⟩
    · exact owes_mvj 1 207 (by kernel_rfl) (by kernel_rfl) (by kernel_rfl) (by kernel_rfl) (by rw [hsz]; decide) (fun v w h => h)
    · refine owes_vt 2 false (Go.Op.move (Go.Operand.tmp 25)) 4 [] (by kernel_rfl) (by kernel_rfl) (by kernel_rfl) (fun _ _ h => h) (by rw [hsz]; kernel_rfl) (by kernel_rfl) rfl fun vals w1 ρ hG hF hρ hcst hfun => ?_
      have e25 : ρ (.tmp 25) = .bool dn := ((hρ 25).trans (slotO [] (by kernel_rfl))).trans sl25
      clear hρ hF hcst hfun sl13 sl14 sl15 sl20 sl25 sl26 fin
      exact opv_val (by go_simp <;> rfl) ⟨gw_self _, rfl⟩
    · refine owes_vt 2 false (Go.Op.move (Go.Operand.tmp 20)) 37 [] (by kernel_rfl) (by kernel_rfl) (by kernel_rfl) (fun _ _ h => h) (by rw [hsz]; kernel_rfl) (by kernel_rfl) rfl fun vals w1 ρ hG hF hρ hcst hfun => ?_
      have e20 : ρ (.tmp 20) = .pointer (some ⟨Pb, 0, none⟩) := ((hρ 20).trans (slotO [] (by kernel_rfl))).trans sl20
      clear hρ hF hcst hfun sl13 sl14 sl15 sl20 sl25 sl26 fin
      exact opv_val (by go_simp <;> rfl) ⟨gw_self _, rfl⟩
    · refine owes_vt 2 false (Go.Op.call { callee := Go.Callee.value (Go.Operand.func 18), args := #[Go.Operand.tmp 210], argTypes := #[37] }) 4 [4] (by kernel_rfl) (by kernel_rfl) (by kernel_rfl) (fun _ _ h => h) (by rw [hsz]; kernel_rfl) (by kernel_rfl) rfl fun vals w1 ρ hG hF hρ hcst hfun => ?_
      have e210 : ρ (.tmp 210) = .pointer (some ⟨Pb, 0, none⟩) := ((hρ 210).trans (slotJ [4] (by rw [hsz]; decide) (by kernel_rfl))).trans (hF 4 (by decide))
      clear hρ hF hcst sl13 sl14 sl15 sl20 sl25 sl26 fin
      exact opv_enter (by go_simp <;> rfl) (of_ret (hpd.out w1 hG))
    · refine owes_vt 2 false (Go.Op.binOp Go.BinOp.neq 4 (Go.Operand.tmp 209) (Go.Operand.tmp 211) 4) 4 [3, 5] (by kernel_rfl) (by kernel_rfl) (by kernel_rfl) (fun _ _ h => h) (by rw [hsz]; kernel_rfl) (by kernel_rfl) rfl fun vals w1 ρ hG hF hρ hcst hfun => ?_
      have e209 : ρ (.tmp 209) = .bool dn := ((hρ 209).trans (slotJ [3, 5] (by rw [hsz]; decide) (by kernel_rfl))).trans (hF 3 (by decide))
      have e211 : ρ (.tmp 211) = .bool dn := ((hρ 211).trans (slotJ [3, 5] (by rw [hsz]; decide) (by kernel_rfl))).trans (hF 5 (by decide))
      clear hρ hF hcst hfun sl13 sl14 sl15 sl20 sl25 sl26 fin
      exact opv_val (by go_simp <;> rfl) ⟨gw_self _, rfl⟩
    · refine owes_v (Go.Op.pick (Go.Operand.tmp 208) (Go.Operand.const (Go.Value.bool true)) (Go.Operand.tmp 212)) 4 [2, 6] (by kernel_rfl) (by kernel_rfl) (by kernel_rfl) rfl fun vals w1 ρ hG hF hρ hcst hfun => ?_
      have e208 : ρ (.tmp 208) = .bool false := ((hρ 208).trans (slotJ [2, 6] (by rw [hsz]; decide) (by kernel_rfl))).trans (hF 2 (by decide))
      have e212 : ρ (.tmp 212) = .bool false := ((hρ 212).trans (slotJ [2, 6] (by rw [hsz]; decide) (by kernel_rfl))).trans (hF 6 (by decide))
      clear hρ hF hfun sl13 sl14 sl15 sl20 sl25 sl26 fin
      exact opv_val (by go_simp <;> rfl) ⟨gw_self _, rfl⟩
    · exact owes_mvj 7 213 (by kernel_rfl) (by kernel_rfl) (by kernel_rfl) (by kernel_rfl) (by rw [hsz]; decide) (fun v w h => h)
    · refine owes_vt 8 false (Go.Op.move (Go.Operand.tmp 15)) 31 [] (by kernel_rfl) (by kernel_rfl) (by kernel_rfl) (fun _ _ h => h) (by rw [hsz]; kernel_rfl) (by kernel_rfl) rfl fun vals w1 ρ hG hF hρ hcst hfun => ?_
      have e15 : ρ (.tmp 15) = .pointer (some ⟨Cq, 0, none⟩) := ((hρ 15).trans (slotO [] (by kernel_rfl))).trans sl15
      clear hρ hF hcst hfun sl13 sl14 sl15 sl20 sl25 sl26 fin
      exact opv_val (by go_simp <;> rfl) ⟨gw_self _, rfl⟩
    · refine owes_vt 8 false (Go.Op.call { callee := Go.Callee.value (Go.Operand.func 19), args := #[Go.Operand.tmp 215], argTypes := #[31] }) 4 [9] (by kernel_rfl) (by kernel_rfl) (by kernel_rfl) (fun _ _ h => h) (by rw [hsz]; kernel_rfl) (by kernel_rfl) rfl fun vals w1 ρ hG hF hρ hcst hfun => ?_
      have e215 : ρ (.tmp 215) = .pointer (some ⟨Cq, 0, none⟩) := ((hρ 215).trans (slotJ [9] (by rw [hsz]; decide) (by kernel_rfl))).trans (hF 9 (by decide))
      clear hρ hF hcst sl13 sl14 sl15 sl20 sl25 sl26 fin
      exact opv_enter (by go_simp <;> rfl) (of_ret (hcd.out w1 hG))
    · refine owes_vt 8 false (Go.Op.move (Go.Operand.tmp 20)) 37 [] (by kernel_rfl) (by kernel_rfl) (by kernel_rfl) (fun _ _ h => h) (by rw [hsz]; kernel_rfl) (by kernel_rfl) rfl fun vals w1 ρ hG hF hρ hcst hfun => ?_
      have e20 : ρ (.tmp 20) = .pointer (some ⟨Pb, 0, none⟩) := ((hρ 20).trans (slotO [] (by kernel_rfl))).trans sl20
      clear hρ hF hcst hfun sl13 sl14 sl15 sl20 sl25 sl26 fin
      exact opv_val (by go_simp <;> rfl) ⟨gw_self _, rfl⟩
    · refine owes_vt 8 false (Go.Op.call { callee := Go.Callee.value (Go.Operand.func 18), args := #[Go.Operand.tmp 217], argTypes := #[37] }) 4 [11] (by kernel_rfl) (by kernel_rfl) (by kernel_rfl) (fun _ _ h => h) (by rw [hsz]; kernel_rfl) (by kernel_rfl) rfl fun vals w1 ρ hG hF hρ hcst hfun => ?_
      have e217 : ρ (.tmp 217) = .pointer (some ⟨Pb, 0, none⟩) := ((hρ 217).trans (slotJ [11] (by rw [hsz]; decide) (by kernel_rfl))).trans (hF 11 (by decide))
      clear hρ hF hcst sl13 sl14 sl15 sl20 sl25 sl26 fin
      exact opv_enter (by go_simp <;> rfl) (of_ret (hpd.out w1 hG))
    · refine owes_vt 8 false (Go.Op.binOp Go.BinOp.neq 4 (Go.Operand.tmp 216) (Go.Operand.tmp 218) 4) 4 [10, 12] (by kernel_rfl) (by kernel_rfl) (by kernel_rfl) (fun _ _ h => h) (by rw [hsz]; kernel_rfl) (by kernel_rfl) rfl fun vals w1 ρ hG hF hρ hcst hfun => ?_
      have e216 : ρ (.tmp 216) = .bool dn := ((hρ 216).trans (slotJ [10, 12] (by rw [hsz]; decide) (by kernel_rfl))).trans (hF 10 (by decide))
      have e218 : ρ (.tmp 218) = .bool dn := ((hρ 218).trans (slotJ [10, 12] (by rw [hsz]; decide) (by kernel_rfl))).trans (hF 12 (by decide))
      clear hρ hF hcst hfun sl13 sl14 sl15 sl20 sl25 sl26 fin
      exact opv_val (by go_simp <;> rfl) ⟨gw_self _, rfl⟩
    · refine owes_v (Go.Op.pick (Go.Operand.tmp 214) (Go.Operand.const (Go.Value.bool true)) (Go.Operand.tmp 219)) 4 [8, 13] (by kernel_rfl) (by kernel_rfl) (by kernel_rfl) rfl fun vals w1 ρ hG hF hρ hcst hfun => ?_
      have e214 : ρ (.tmp 214) = .bool false := ((hρ 214).trans (slotJ [8, 13] (by rw [hsz]; decide) (by kernel_rfl))).trans (hF 8 (by decide))
      have e219 : ρ (.tmp 219) = .bool false := ((hρ 219).trans (slotJ [8, 13] (by rw [hsz]; decide) (by kernel_rfl))).trans (hF 13 (by decide))
      clear hρ hF hfun sl13 sl14 sl15 sl20 sl25 sl26 fin
      exact opv_val (by go_simp <;> rfl) ⟨gw_self _, rfl⟩
    · exact owes_mvj 14 220 (by kernel_rfl) (by kernel_rfl) (by kernel_rfl) (by kernel_rfl) (by rw [hsz]; decide) (fun v w h => h)
    · refine owes_vt 15 false (Go.Op.move (Go.Operand.tmp 15)) 31 [] (by kernel_rfl) (by kernel_rfl) (by kernel_rfl) (fun _ _ h => h) (by rw [hsz]; kernel_rfl) (by kernel_rfl) rfl fun vals w1 ρ hG hF hρ hcst hfun => ?_
      have e15 : ρ (.tmp 15) = .pointer (some ⟨Cq, 0, none⟩) := ((hρ 15).trans (slotO [] (by kernel_rfl))).trans sl15
      clear hρ hF hcst hfun sl13 sl14 sl15 sl20 sl25 sl26 fin
      exact opv_val (by go_simp <;> rfl) ⟨gw_self _, rfl⟩
    · refine owes_vt 15 false (Go.Op.call { callee := Go.Callee.value (Go.Operand.func 20), args := #[Go.Operand.tmp 222], argTypes := #[31] }) 3 [16] (by kernel_rfl) (by kernel_rfl) (by kernel_rfl) (fun _ _ h => h) (by rw [hsz]; kernel_rfl) (by kernel_rfl) rfl fun vals w1 ρ hG hF hρ hcst hfun => ?_
      have e222 : ρ (.tmp 222) = .pointer (some ⟨Cq, 0, none⟩) := ((hρ 222).trans (slotJ [16] (by rw [hsz]; decide) (by kernel_rfl))).trans (hF 16 (by decide))
      clear hρ hF hcst sl13 sl14 sl15 sl20 sl25 sl26 fin
      exact opv_enter (by go_simp <;> rfl) (of_ret (hcs.out w1 hG))
    · refine owes_vt 15 false (Go.Op.move (Go.Operand.tmp 20)) 37 [] (by kernel_rfl) (by kernel_rfl) (by kernel_rfl) (fun _ _ h => h) (by rw [hsz]; kernel_rfl) (by kernel_rfl) rfl fun vals w1 ρ hG hF hρ hcst hfun => ?_
      have e20 : ρ (.tmp 20) = .pointer (some ⟨Pb, 0, none⟩) := ((hρ 20).trans (slotO [] (by kernel_rfl))).trans sl20
      clear hρ hF hcst hfun sl13 sl14 sl15 sl20 sl25 sl26 fin
      exact opv_val (by go_simp <;> rfl) ⟨gw_self _, rfl⟩
    · refine owes_vt 15 false (Go.Op.nilCheck (Go.Operand.tmp 224)) 0 [18] (by kernel_rfl) (by kernel_rfl) (by kernel_rfl) (fun _ _ h => h) (by rw [hsz]; kernel_rfl) (by kernel_rfl) rfl fun vals w1 ρ hG hF hρ hcst hfun => ?_
      have e224 : ρ (.tmp 224) = .pointer (some ⟨Pb, 0, none⟩) := ((hρ 224).trans (slotJ [18] (by rw [hsz]; decide) (by kernel_rfl))).trans (hF 18 (by decide))
      clear hρ hF hcst hfun sl13 sl14 sl15 sl20 sl25 sl26 fin
      exact opv_val (by go_simp <;> rfl) ⟨gw_self _, rfl⟩
    · refine owes_vt 15 false (Go.Op.fieldAddr 41 (Go.Operand.tmp 225) 0) 0 [19] (by kernel_rfl) (by kernel_rfl) (by kernel_rfl) (fun _ _ h => h) (by rw [hsz]; kernel_rfl) (by kernel_rfl) rfl fun vals w1 ρ hG hF hρ hcst hfun => ?_
      have e225 : ρ (.tmp 225) = .pointer (some ⟨Pb, 0, none⟩) := ((hρ 225).trans (slotJ [19] (by rw [hsz]; decide) (by kernel_rfl))).trans (hF 19 (by decide))
      clear hρ hF hcst hfun sl13 sl14 sl15 sl20 sl25 sl26 fin
      exact opv_val (by go_simp <;> rfl) ⟨gw_self _, rfl⟩
    · refine owes_vt 15 false (Go.Op.load 38 (Go.Operand.tmp 226)) 38 [20] (by kernel_rfl) (by kernel_rfl) (by kernel_rfl) (fun _ _ h => h) (by rw [hsz]; kernel_rfl) (by kernel_rfl) rfl fun vals w1 ρ hG hF hρ hcst hfun => ?_
      have e226 : ρ (.tmp 226) = .pointer (some ⟨Pb, 0, none⟩) := ((hρ 226).trans (slotJ [20] (by rw [hsz]; decide) (by kernel_rfl))).trans (hF 20 (by decide))
      have k := (hG.cell (p := ⟨Pb, 0, none⟩) hP).trans p0
      clear hρ hF hcst hfun sl13 sl14 sl15 sl20 sl25 sl26 fin
      exact opv_val (by go_simp <;> rfl) ⟨gw_self _, rfl⟩
    · refine owes_vt 15 false (Go.Op.nilCheck (Go.Operand.tmp 227)) 0 [21] (by kernel_rfl) (by kernel_rfl) (by kernel_rfl) (fun _ _ h => h) (by rw [hsz]; kernel_rfl) (by kernel_rfl) rfl fun vals w1 ρ hG hF hρ hcst hfun => ?_
      have e227 : ρ (.tmp 227) = .pointer (some ⟨X, 0, none⟩) := ((hρ 227).trans (slotJ [21] (by rw [hsz]; decide) (by kernel_rfl))).trans (hF 21 (by decide))
      clear hρ hF hcst hfun sl13 sl14 sl15 sl20 sl25 sl26 fin
      exact opv_val (by go_simp <;> rfl) ⟨gw_self _, rfl⟩
    · refine owes_vt 15 false (Go.Op.fieldAddr 49 (Go.Operand.tmp 228) 4) 0 [22] (by kernel_rfl) (by kernel_rfl) (by kernel_rfl) (fun _ _ h => h) (by rw [hsz]; kernel_rfl) (by kernel_rfl) rfl fun vals w1 ρ hG hF hρ hcst hfun => ?_
      have e228 : ρ (.tmp 228) = .pointer (some ⟨X, 0, none⟩) := ((hρ 228).trans (slotJ [22] (by rw [hsz]; decide) (by kernel_rfl))).trans (hF 22 (by decide))
      clear hρ hF hcst hfun sl13 sl14 sl15 sl20 sl25 sl26 fin
      exact opv_val (by go_simp <;> rfl) ⟨gw_self _, rfl⟩
    · refine owes_vt 15 false (Go.Op.load 3 (Go.Operand.tmp 229)) 3 [23] (by kernel_rfl) (by kernel_rfl) (by kernel_rfl) (fun _ _ h => h) (by rw [hsz]; kernel_rfl) (by kernel_rfl) rfl fun vals w1 ρ hG hF hρ hcst hfun => ?_
      have e229 : ρ (.tmp 229) = .pointer (some ⟨X, 4, none⟩) := ((hρ 229).trans (slotJ [23] (by rw [hsz]; decide) (by kernel_rfl))).trans (hF 23 (by decide))
      have k := (hG.cell (p := ⟨X, 4, none⟩) hX).trans x4
      clear hρ hF hcst hfun sl13 sl14 sl15 sl20 sl25 sl26 fin
      exact opv_val (by go_simp <;> rfl) ⟨gw_self _, rfl⟩
    · refine owes_vt 15 false (Go.Op.binOp Go.BinOp.neq 3 (Go.Operand.tmp 223) (Go.Operand.tmp 230) 3) 4 [17, 24] (by kernel_rfl) (by kernel_rfl) (by kernel_rfl) (fun _ _ h => h) (by rw [hsz]; kernel_rfl) (by kernel_rfl) rfl fun vals w1 ρ hG hF hρ hcst hfun => ?_
      have e223 : ρ (.tmp 223) = .int .i64 sc := ((hρ 223).trans (slotJ [17, 24] (by rw [hsz]; decide) (by kernel_rfl))).trans (hF 17 (by decide))
      have e230 : ρ (.tmp 230) = .int .i64 sc := ((hρ 230).trans (slotJ [17, 24] (by rw [hsz]; decide) (by kernel_rfl))).trans (hF 24 (by decide))
      clear hρ hF hcst hfun sl13 sl14 sl15 sl20 sl25 sl26 fin
      exact opv_val (by go_simp <;> rfl) ⟨gw_self _, rfl⟩
    · refine owes_v (Go.Op.pick (Go.Operand.tmp 221) (Go.Operand.const (Go.Value.bool true)) (Go.Operand.tmp 231)) 4 [15, 25] (by kernel_rfl) (by kernel_rfl) (by kernel_rfl) rfl fun vals w1 ρ hG hF hρ hcst hfun => ?_
      have e221 : ρ (.tmp 221) = .bool false := ((hρ 221).trans (slotJ [15, 25] (by rw [hsz]; decide) (by kernel_rfl))).trans (hF 15 (by decide))
      have e231 : ρ (.tmp 231) = .bool false := ((hρ 231).trans (slotJ [15, 25] (by rw [hsz]; decide) (by kernel_rfl))).trans (hF 25 (by decide))
      clear hρ hF hfun sl13 sl14 sl15 sl20 sl25 sl26 fin
      exact opv_val (by go_simp <;> rfl) ⟨gw_self _, rfl⟩
    · exact owes_mvj 26 232 (by kernel_rfl) (by kernel_rfl) (by kernel_rfl) (by kernel_rfl) (by rw [hsz]; decide) (fun v w h => h)
    · refine owes_vt 27 false (Go.Op.move (Go.Operand.tmp 15)) 31 [] (by kernel_rfl) (by kernel_rfl) (by kernel_rfl) (fun _ _ h => h) (by rw [hsz]; kernel_rfl) (by kernel_rfl) rfl fun vals w1 ρ hG hF hρ hcst hfun => ?_
      have e15 : ρ (.tmp 15) = .pointer (some ⟨Cq, 0, none⟩) := ((hρ 15).trans (slotO [] (by kernel_rfl))).trans sl15
      clear hρ hF hcst hfun sl13 sl14 sl15 sl20 sl25 sl26 fin
      exact opv_val (by go_simp <;> rfl) ⟨gw_self _, rfl⟩
    · refine owes_vt 27 false (Go.Op.call { callee := Go.Callee.value (Go.Operand.func 21), args := #[Go.Operand.tmp 234], argTypes := #[31] }) 3 [28] (by kernel_rfl) (by kernel_rfl) (by kernel_rfl) (fun _ _ h => h) (by rw [hsz]; kernel_rfl) (by kernel_rfl) rfl fun vals w1 ρ hG hF hρ hcst hfun => ?_
      have e234 : ρ (.tmp 234) = .pointer (some ⟨Cq, 0, none⟩) := ((hρ 234).trans (slotJ [28] (by rw [hsz]; decide) (by kernel_rfl))).trans (hF 28 (by decide))
      clear hρ hF hcst sl13 sl14 sl15 sl20 sl25 sl26 fin
      exact opv_enter (by go_simp <;> rfl) (of_ret (hcf.out w1 hG))
    · refine owes_vt 27 false (Go.Op.move (Go.Operand.tmp 20)) 37 [] (by kernel_rfl) (by kernel_rfl) (by kernel_rfl) (fun _ _ h => h) (by rw [hsz]; kernel_rfl) (by kernel_rfl) rfl fun vals w1 ρ hG hF hρ hcst hfun => ?_
      have e20 : ρ (.tmp 20) = .pointer (some ⟨Pb, 0, none⟩) := ((hρ 20).trans (slotO [] (by kernel_rfl))).trans sl20
      clear hρ hF hcst hfun sl13 sl14 sl15 sl20 sl25 sl26 fin
      exact opv_val (by go_simp <;> rfl) ⟨gw_self _, rfl⟩
    · refine owes_vt 27 false (Go.Op.nilCheck (Go.Operand.tmp 236)) 0 [30] (by kernel_rfl) (by kernel_rfl) (by kernel_rfl) (fun _ _ h => h) (by rw [hsz]; kernel_rfl) (by kernel_rfl) rfl fun vals w1 ρ hG hF hρ hcst hfun => ?_
      have e236 : ρ (.tmp 236) = .pointer (some ⟨Pb, 0, none⟩) := ((hρ 236).trans (slotJ [30] (by rw [hsz]; decide) (by kernel_rfl))).trans (hF 30 (by decide))
      clear hρ hF hcst hfun sl13 sl14 sl15 sl20 sl25 sl26 fin
      exact opv_val (by go_simp <;> rfl) ⟨gw_self _, rfl⟩
    · refine owes_vt 27 false (Go.Op.fieldAddr 41 (Go.Operand.tmp 237) 0) 0 [31] (by kernel_rfl) (by kernel_rfl) (by kernel_rfl) (fun _ _ h => h) (by rw [hsz]; kernel_rfl) (by kernel_rfl) rfl fun vals w1 ρ hG hF hρ hcst hfun => ?_
      have e237 : ρ (.tmp 237) = .pointer (some ⟨Pb, 0, none⟩) := ((hρ 237).trans (slotJ [31] (by rw [hsz]; decide) (by kernel_rfl))).trans (hF 31 (by decide))
      clear hρ hF hcst hfun sl13 sl14 sl15 sl20 sl25 sl26 fin
      exact opv_val (by go_simp <;> rfl) ⟨gw_self _, rfl⟩
    · refine owes_vt 27 false (Go.Op.load 38 (Go.Operand.tmp 238)) 38 [32] (by kernel_rfl) (by kernel_rfl) (by kernel_rfl) (fun _ _ h => h) (by rw [hsz]; kernel_rfl) (by kernel_rfl) rfl fun vals w1 ρ hG hF hρ hcst hfun => ?_
      have e238 : ρ (.tmp 238) = .pointer (some ⟨Pb, 0, none⟩) := ((hρ 238).trans (slotJ [32] (by rw [hsz]; decide) (by kernel_rfl))).trans (hF 32 (by decide))
      have k := (hG.cell (p := ⟨Pb, 0, none⟩) hP).trans p0
      clear hρ hF hcst hfun sl13 sl14 sl15 sl20 sl25 sl26 fin
      exact opv_val (by go_simp <;> rfl) ⟨gw_self _, rfl⟩
    · refine owes_vt 27 false (Go.Op.nilCheck (Go.Operand.tmp 239)) 0 [33] (by kernel_rfl) (by kernel_rfl) (by kernel_rfl) (fun _ _ h => h) (by rw [hsz]; kernel_rfl) (by kernel_rfl) rfl fun vals w1 ρ hG hF hρ hcst hfun => ?_
      have e239 : ρ (.tmp 239) = .pointer (some ⟨X, 0, none⟩) := ((hρ 239).trans (slotJ [33] (by rw [hsz]; decide) (by kernel_rfl))).trans (hF 33 (by decide))
      clear hρ hF hcst hfun sl13 sl14 sl15 sl20 sl25 sl26 fin
      exact opv_val (by go_simp <;> rfl) ⟨gw_self _, rfl⟩
    · refine owes_vt 27 false (Go.Op.fieldAddr 49 (Go.Operand.tmp 240) 1) 0 [34] (by kernel_rfl) (by kernel_rfl) (by kernel_rfl) (fun _ _ h => h) (by rw [hsz]; kernel_rfl) (by kernel_rfl) rfl fun vals w1 ρ hG hF hρ hcst hfun => ?_
      have e240 : ρ (.tmp 240) = .pointer (some ⟨X, 0, none⟩) := ((hρ 240).trans (slotJ [34] (by rw [hsz]; decide) (by kernel_rfl))).trans (hF 34 (by decide))
      clear hρ hF hcst hfun sl13 sl14 sl15 sl20 sl25 sl26 fin
      exact opv_val (by go_simp <;> rfl) ⟨gw_self _, rfl⟩
    · refine owes_vt 27 false (Go.Op.load 28 (Go.Operand.tmp 241)) 28 [35] (by kernel_rfl) (by kernel_rfl) (by kernel_rfl) (fun _ _ h => h) (by rw [hsz]; kernel_rfl) (by kernel_rfl) rfl fun vals w1 ρ hG hF hρ hcst hfun => ?_
      have e241 : ρ (.tmp 241) = .pointer (some ⟨X, 1, none⟩) := ((hρ 241).trans (slotJ [35] (by rw [hsz]; decide) (by kernel_rfl))).trans (hF 35 (by decide))
      have k := (hG.cell (p := ⟨X, 1, none⟩) hX).trans x1
      clear hρ hF hcst hfun sl13 sl14 sl15 sl20 sl25 sl26 fin
      exact opv_val (by go_simp <;> rfl) ⟨gw_self _, rfl⟩
    · refine owes_vt 27 false (Go.Op.nilCheck (Go.Operand.tmp 242)) 0 [36] (by kernel_rfl) (by kernel_rfl) (by kernel_rfl) (fun _ _ h => h) (by rw [hsz]; kernel_rfl) (by kernel_rfl) rfl fun vals w1 ρ hG hF hρ hcst hfun => ?_
      have e242 : ρ (.tmp 242) = .pointer (some ⟨N, 0, none⟩) := ((hρ 242).trans (slotJ [36] (by rw [hsz]; decide) (by kernel_rfl))).trans (hF 36 (by decide))
      clear hρ hF hcst hfun sl13 sl14 sl15 sl20 sl25 sl26 fin
      exact opv_val (by go_simp <;> rfl) ⟨gw_self _, rfl⟩
    · refine owes_vt 27 false (Go.Op.fieldAddr 30 (Go.Operand.tmp 243) 2) 0 [37] (by kernel_rfl) (by kernel_rfl) (by kernel_rfl) (fun _ _ h => h) (by rw [hsz]; kernel_rfl) (by kernel_rfl) rfl fun vals w1 ρ hG hF hρ hcst hfun => ?_
      have e243 : ρ (.tmp 243) = .pointer (some ⟨N, 0, none⟩) := ((hρ 243).trans (slotJ [37] (by rw [hsz]; decide) (by kernel_rfl))).trans (hF 37 (by decide))
      clear hρ hF hcst hfun sl13 sl14 sl15 sl20 sl25 sl26 fin
      exact opv_val (by go_simp <;> rfl) ⟨gw_self _, rfl⟩
    · refine owes_vt 27 false (Go.Op.load 3 (Go.Operand.tmp 244)) 3 [38] (by kernel_rfl) (by kernel_rfl) (by kernel_rfl) (fun _ _ h => h) (by rw [hsz]; kernel_rfl) (by kernel_rfl) rfl fun vals w1 ρ hG hF hρ hcst hfun => ?_
      have e244 : ρ (.tmp 244) = .pointer (some ⟨N, 2, none⟩) := ((hρ 244).trans (slotJ [38] (by rw [hsz]; decide) (by kernel_rfl))).trans (hF 38 (by decide))
      have k := (hG.cell (p := ⟨N, 2, none⟩) hN).trans n2
      clear hρ hF hcst hfun sl13 sl14 sl15 sl20 sl25 sl26 fin
      exact opv_val (by go_simp <;> rfl) ⟨gw_self _, rfl⟩
    · refine owes_vt 27 false (Go.Op.binOp Go.BinOp.neq 3 (Go.Operand.tmp 235) (Go.Operand.tmp 245) 3) 4 [29, 39] (by kernel_rfl) (by kernel_rfl) (by kernel_rfl) (fun _ _ h => h) (by rw [hsz]; kernel_rfl) (by kernel_rfl) rfl fun vals w1 ρ hG hF hρ hcst hfun => ?_
      have e235 : ρ (.tmp 235) = .int .i64 tp := ((hρ 235).trans (slotJ [29, 39] (by rw [hsz]; decide) (by kernel_rfl))).trans (hF 29 (by decide))
      have e245 : ρ (.tmp 245) = .int .i64 tp := ((hρ 245).trans (slotJ [29, 39] (by rw [hsz]; decide) (by kernel_rfl))).trans (hF 39 (by decide))
      clear hρ hF hcst hfun sl13 sl14 sl15 sl20 sl25 sl26 fin
      exact opv_val (by go_simp <;> rfl) ⟨gw_self _, rfl⟩
    · refine owes_v (Go.Op.pick (Go.Operand.tmp 233) (Go.Operand.const (Go.Value.bool true)) (Go.Operand.tmp 246)) 4 [27, 40] (by kernel_rfl) (by kernel_rfl) (by kernel_rfl) rfl fun vals w1 ρ hG hF hρ hcst hfun => ?_
      have e233 : ρ (.tmp 233) = .bool false := ((hρ 233).trans (slotJ [27, 40] (by rw [hsz]; decide) (by kernel_rfl))).trans (hF 27 (by decide))
      have e246 : ρ (.tmp 246) = .bool false := ((hρ 246).trans (slotJ [27, 40] (by rw [hsz]; decide) (by kernel_rfl))).trans (hF 40 (by decide))
      clear hρ hF hfun sl13 sl14 sl15 sl20 sl25 sl26 fin
      exact opv_val (by go_simp <;> rfl) ⟨gw_self _, rfl⟩
    · exact owes_mvj 41 247 (by kernel_rfl) (by kernel_rfl) (by kernel_rfl) (by kernel_rfl) (by rw [hsz]; decide) (fun v w h => h)
    · refine owes_vt 42 false (Go.Op.move (Go.Operand.tmp 13)) 26 [] (by kernel_rfl) (by kernel_rfl) (by kernel_rfl) (fun _ _ h => h) (by rw [hsz]; kernel_rfl) (by kernel_rfl) rfl fun vals w1 ρ hG hF hρ hcst hfun => ?_
      have e13 : ρ (.tmp 13) = .pointer (some ⟨s, 0, none⟩) := ((hρ 13).trans (slotO [] (by kernel_rfl))).trans sl13
      clear hρ hF hcst hfun sl13 sl14 sl15 sl20 sl25 sl26 fin
      exact opv_val (by go_simp <;> rfl) ⟨gw_self _, rfl⟩
    · refine owes_vt 42 false (Go.Op.move (Go.Operand.tmp 14)) 28 [] (by kernel_rfl) (by kernel_rfl) (by kernel_rfl) (fun _ _ h => h) (by rw [hsz]; kernel_rfl) (by kernel_rfl) rfl fun vals w1 ρ hG hF hρ hcst hfun => ?_
      have e14 : ρ (.tmp 14) = .pointer (some ⟨R, 0, none⟩) := ((hρ 14).trans (slotO [] (by kernel_rfl))).trans sl14
      clear hρ hF hcst hfun sl13 sl14 sl15 sl20 sl25 sl26 fin
      exact opv_val (by go_simp <;> rfl) ⟨gw_self _, rfl⟩
    · refine owes_vt 42 false (Go.Op.call { callee := Go.Callee.value (Go.Operand.func 22), args := #[Go.Operand.tmp 249, Go.Operand.tmp 250], argTypes := #[26, 28] }) 4 [43, 44] (by kernel_rfl) (by kernel_rfl) (by kernel_rfl) (fun _ _ h => h) (by rw [hsz]; kernel_rfl) (by kernel_rfl) rfl fun vals w1 ρ hG hF hρ hcst hfun => ?_
      have e249 : ρ (.tmp 249) = .pointer (some ⟨s, 0, none⟩) := ((hρ 249).trans (slotJ [43, 44] (by rw [hsz]; decide) (by kernel_rfl))).trans (hF 43 (by decide))
      have e250 : ρ (.tmp 250) = .pointer (some ⟨R, 0, none⟩) := ((hρ 250).trans (slotJ [43, 44] (by rw [hsz]; decide) (by kernel_rfl))).trans (hF 44 (by decide))
      clear hρ hF hcst sl13 sl14 sl15 sl20 sl25 sl26 fin
      exact opv_enter (by go_simp <;> rfl) (of_ret (hsm.out w1 hG))
    · refine owes_vt 42 false (Go.Op.unOp Go.UnOp.not 4 (Go.Operand.tmp 251)) 4 [45] (by kernel_rfl) (by kernel_rfl) (by kernel_rfl) (fun _ _ h => h) (by rw [hsz]; kernel_rfl) (by kernel_rfl) rfl fun vals w1 ρ hG hF hρ hcst hfun => ?_
      have e251 : ρ (.tmp 251) = .bool true := ((hρ 251).trans (slotJ [45] (by rw [hsz]; decide) (by kernel_rfl))).trans (hF 45 (by decide))
      clear hρ hF hcst hfun sl13 sl14 sl15 sl20 sl25 sl26 fin
      exact opv_val (by go_simp <;> rfl) ⟨gw_self _, rfl⟩
    · refine owes_v (Go.Op.pick (Go.Operand.tmp 248) (Go.Operand.const (Go.Value.bool true)) (Go.Operand.tmp 252)) 4 [42, 46] (by kernel_rfl) (by kernel_rfl) (by kernel_rfl) rfl fun vals w1 ρ hG hF hρ hcst hfun => ?_
      have e248 : ρ (.tmp 248) = .bool false := ((hρ 248).trans (slotJ [42, 46] (by rw [hsz]; decide) (by kernel_rfl))).trans (hF 42 (by decide))
      have e252 : ρ (.tmp 252) = .bool false := ((hρ 252).trans (slotJ [42, 46] (by rw [hsz]; decide) (by kernel_rfl))).trans (hF 46 (by decide))
      clear hρ hF hfun sl13 sl14 sl15 sl20 sl25 sl26 fin
      exact opv_val (by go_simp <;> rfl) ⟨gw_self _, rfl⟩
  · intro vals w1 hG hF
    exact fin vals w1 hG (hF 47 (by decide +kernel))
end Go.Proofs.Ytbanbpphadgoiaa
/- StepPlays: from step to step. Conditions: right objects. -/
namespace Go.Proofs.Ytbanbpphadgoiaa
set_option linter.unusedVariables false
set_option linter.unusedSimpArgs false
open Go.RowKit Go.Maps
set_option maxHeartbeats 2000000
set_option maxRecDepth 100000
section
variable {S S2 : Nat → Prop} {w4 W0 W : World} {B Br X R N Pb : Nat} {A3 : Option Addr} {c3 : Nat} {ws : List (BitVec 64)} {b t E : Nat} {l : List Nat} {m : Nat} {A2 : Option Addr} {M c2 : Nat} {roots : List Int} {Z : Option (List Nat × Cy)} {cv : Value} {Q : Nat} {f : CoF} {xw : Value} {s s' : Sc} {cnt : Nat}
/-- A collector and the document's one, alike, before a size of step. -/
structure PlC (w4 : World) (Br X R N Pb : Nat) (A3 : Option Addr) (c3 : Nat) (ws : List (BitVec 64)) (b t E : Nat) (l : List Nat) (m : Nat) (A2 : Option Addr) (M c2 : Nat) (roots : List Int) (Z : Option (List Nat × Cy)) (S : Nat → Prop) (Q : Nat) (f : CoF) (xw : Value) (s : Sc) (cnt : Nat) (W : World) : Prop where
  co : CoAt W w4.heap.size S Q f roots xw s cnt false
  fb : f.b = b
  ft : f.t = t
  si : SI ws l b t m (roots.map rootP) s
  run : RunR m (roots.map rootP) Z s
  re : reS (roots.map rootP) cnt (NewS ws m) = some s
  ms : cnt + measS m (roots.map rootP) s ≤ 1000000
  pa : PaAt S W Br X R N Pb A3 c3 ws b t E l m A2 M c2 false s
  bl : Below w4.heap.size w4 W
def PlJ (w4 : World) (Br X R N Pb : Nat) (A3 : Option Addr) (c3 : Nat) (ws : List (BitVec 64)) (b t E : Nat) (l : List Nat) (m : Nat) (A2 : Option Addr) (M c2 : Nat) (roots : List Int) (Z : Option (List Nat × Cy)) (cv : Value) (W : World) : Prop :=
  ∃ (S : Nat → Prop) (Q : Nat) (f : CoF) (xw : Value) (s : Sc) (cnt : Nat), cv = .pointer (some ⟨Q, 0, none⟩) ∧ PlC w4 Br X R N Pb A3 c3 ws b t E l m A2 M c2 roots Z S Q f xw s cnt W
/-- What stands fast: the right objects, the roots' row. -/
structure PlF (w4 : World) (Br R : Nat) (A3 : Option Addr) (ws : List (BitVec 64)) (b t : Nat) (l : List Nat) (m : Nat) (A2 : Option Addr) (M : Nat) (roots : List Int) : Prop where
  hp : Heap ws l b t
  m8 : m ≤ 8192
  rt : RootsOk l roots
  M1 : M = roots.length
  M8 : M ≤ 1000
  rd : Rd zV w4 w4.heap.size A2 roots
  R4 : R < w4.heap.size
  A4 : ∀ ad, A3 = some ad → ws ≠ [] → ad.block < w4.heap.size
  Br4 : w4.heap.size ≤ Br
def InJ (S : Nat → Prop) (W0 w4 : World) (Br X R N Pb : Nat) (A3 : Option Addr) (c3 : Nat) (ws : List (BitVec 64)) (b t E : Nat) (l : List Nat) (m : Nat) (A2 : Option Addr) (M c2 : Nat) (roots : List Int) (n k : Nat) (Rn : Option Sc) (W : World) : Prop :=
  ∃ (full : Bool) (s' : Sc), PaAt S W Br X R N Pb A3 c3 ws b t E l m A2 M c2 full s' ∧ Below Br W0 W ∧ Kept (fun j => ¬ S j) W0 W ∧ ((full = false ∧ SI ws l b t m (roots.map rootP) s' ∧ itF (roots.map rootP) (n - k) s' = Rn) ∨ (full = true ∧ Rn = none))
theorem PlC.in0 (h : PlC w4 Br X R N Pb A3 c3 ws b t E l m A2 M c2 roots Z S Q f xw s cnt W) (n : Nat) : InJ S W w4 Br X R N Pb A3 c3 ws b t E l m A2 M c2 roots n 0 (itF (roots.map rootP) n s) W :=
  ⟨false, s, h.pa, Below.refl _ _, Kept.refl _ _, .inl ⟨rfl, h.si, rfl⟩⟩
theorem in_step (F : PlF w4 Br R A3 ws b t l m A2 M roots) {n k : Nat} {Rn : Option Sc} (w : World) (h4 : Below w4.heap.size w4 w) (pa : PaAt S w Br X R N Pb A3 c3 ws b t E l m A2 M c2 false s') (hb : Below Br W0 w) (hk : Kept (fun j => ¬ S j) W0 w) (si : SI ws l b t m (roots.map rootP) s') (it : itF (roots.map rootP) (n - k) s' = Rn) (hkn : k < n) :
    Calls Try.prog 16 #[.pointer (some ⟨Pb, 0, none⟩)] w (fun r w' => r = .returned (.tuple #[]) ∧ InJ S W0 w4 Br X R N Pb A3 c3 ws b t E l m A2 M c2 roots n (k + 1) Rn w') := by
  have hrd : Rd zV w Br A2 roots := fun j hj => by
    obtain ⟨ad, e1, e2, e3⟩ := (F.rd.below h4) j hj
    exact ⟨ad, e1, Nat.lt_of_lt_of_le e2 F.Br4, e3⟩
  refine (pone_c w F.hp F.m8 roots F.rt pa F.M1 F.M8 hrd si).mono ?_
  rintro r w' ⟨rfl, b2, k2, hn⟩
  refine ⟨rfl, ?_⟩
  obtain ⟨j, hj⟩ : ∃ j, n - k = j + 1 := ⟨n - k - 1, by omega⟩
  have hj2 : n - (k + 1) = j := by omega
  rw [hj] at it
  unfold itF at it
  unfold nextO at hn
  cases hd : doneS (roots.map rootP) s' with
  | true =>
    rw [hd, if_pos rfl] at hn it
    exact ⟨false, s', hn, hb.trans b2, hk.trans k2, .inl ⟨rfl, si, by rw [hj2, itF_done hd, it]⟩⟩
  | false =>
    rw [hd, if_neg (by decide)] at hn it
    cases ho : onceS (roots.map rootP) s' with
    | none =>
      rw [ho] at hn it
      obtain ⟨s2, hs2⟩ := hn
      exact ⟨true, s2, hs2, hb.trans b2, hk.trans k2, .inr ⟨rfl, it.symm⟩⟩
    | some s2 =>
      rw [ho] at hn it
      exact ⟨false, s2, hn, hb.trans b2, hk.trans k2, .inl ⟨rfl, (si.once F.hp F.rt.ps hd ho).1, by rw [hj2]; exact it⟩⟩
/-- The collector's own step, where all fitted. -/
theorem fin_step (F : PlF w4 Br R A3 ws b t l m A2 M roots) (P : PlC w4 Br X R N Pb A3 c3 ws b t E l m A2 M c2 roots Z S Q f xw s cnt W0) (w : World) (v : Int) (hv : v ≤ 9223372036854775807) (pa : PaAt S w Br X R N Pb A3 c3 ws b t E l m A2 M c2 false s') (hb : Below Br W0 w) (hk : Kept (fun j => ¬ S j) W0 w) (it : itF (roots.map rootP) v.toNat s = some s') :
    Calls Try.prog 15 #[.pointer (some ⟨Q, 0, none⟩), .int .i64 v] w (fun r w' => r = .returned (.tuple #[.bool (doneS (roots.map rootP) s'), .int .i64 0]) ∧ ∃ (S2 : Nat → Prop) (xw2 : Value) (c' : Nat), PlC w4 Br X R N Pb A3 c3 ws b t E l m A2 M c2 roots Z S2 Q f xw2 s' c' w') := by
  have hco := P.co.kept hk (fun j hj h => h hj)
  obtain ⟨c', hg⟩ := go_some (c := cnt) it
  obtain ⟨g1, g2, g3⟩ := go_meas F.hp F.rt.ps v.toNat s cnt P.si P.run hg
  have h := step_c w cnt (by rw [P.fb, P.ft]; exact F.hp) F.rt hco (m := m) (by rw [P.fb, P.ft]; exact P.si) v hv P.ms
  rw [hg] at h
  refine h.mono ?_
  rintro r w' ⟨rfl, k, S', xw', q, hS⟩
  have hB4 : w4.heap.size ≤ w.heap.size := Nat.le_trans P.bl.size hk.size
  have hbw : Below w4.heap.size w4 w := P.bl.trans (hb.mono F.Br4)
  refine ⟨rfl, S', xw', c', ⟨q, P.fb, P.ft, g1, g2, go_re v.toNat s cnt P.re hg, by have := P.ms; omega, pa.kept2 k (fun j hj => (hco.own j hj).1) hB4 F.R4 F.A4 (fun j hj => ?_), hbw.trans (k.below hB4 (fun j hj => (hco.own j hj).1))⟩⟩
  rcases hS j hj with h | h
  · exact .inl h
  · exact .inr ⟨h, (q.own j hj).2⟩
theorem fin_full (F : PlF w4 Br R A3 ws b t l m A2 M roots) (P : PlC w4 Br X R N Pb A3 c3 ws b t E l m A2 M c2 roots Z S Q f xw s cnt W0) (w : World) (v : Int) (hv : v ≤ 9223372036854775807) (pa : PaAt S w Br X R N Pb A3 c3 ws b t E l m A2 M c2 true s') (hk : Kept (fun j => ¬ S j) W0 w) (it : itF (roots.map rootP) v.toNat s = none) :
    Calls Try.prog 15 #[.pointer (some ⟨Q, 0, none⟩), .int .i64 v] w (fun r w' => r = .returned (.tuple #[.bool false, .int .i64 6]) ∧ Kept S w w' ∧ (∃ (S2 : Nat → Prop) (xw2 : Value) (s2 : Sc) (c' : Nat), CoAt w' w4.heap.size S2 Q f roots xw2 s2 c' true) ∧ PaAt (fun _ => False) w' Br X R N Pb A3 c3 ws b t E l m A2 M c2 true s') := by
  have hco := P.co.kept hk (fun j hj h => h hj)
  have h := step_c w cnt (by rw [P.fb, P.ft]; exact F.hp) F.rt hco (m := m) (by rw [P.fb, P.ft]; exact P.si) v hv P.ms
  rw [go_none it] at h
  refine h.mono ?_
  rintro r w' ⟨rfl, k, S', xw', s2, c', q, hS⟩
  have hB4 : w4.heap.size ≤ w.heap.size := Nat.le_trans P.bl.size hk.size
  exact ⟨rfl, k, ⟨S', xw', s2, c', q⟩, pa.kept2 k (fun j hj => (hco.own j hj).1) hB4 F.R4 F.A4 (fun j hj => hj.elim)⟩
/-- What comes of a state. -/
theorem res_step (F : PlF w4 Br R A3 ws b t l m A2 M roots) (P : PlC w4 Br X R N Pb A3 c3 ws b t E l m A2 M c2 roots Z S Q f xw s cnt W0) (w : World) (hb : Below W0.heap.size W0 w) {B1 sp g : Nat} {v : Value} {e : Nat} (hsp : SpAt w4 B1 sp g v ws b t e) (hl : ws.length ≤ 8192) (hrw : ∀ r ∈ roots, kW r) (hE : checkE ws b t roots = 0) (A : Option Addr) (c n9 : Nat) (hn : n9 = (uintL (BitVec.ofNat 64 cnt)).length) (hst : Rd b8 w w.heap.size A (uintL (BitVec.ofNat 64 cnt))) :
    Calls Try.prog 13 #[.pointer (some ⟨sp, 0, none⟩), .slice A2 M c2, .int .i64 m, .slice A n9 c] w (fun r w' => ∃ (S2 : Nat → Prop) (Q2 : Nat) (f2 : CoF) (xw2 : Value), r = .returned (.tuple #[.pointer (some ⟨Q2, 0, none⟩), .int .i64 0]) ∧ CoAt w' w.heap.size S2 Q2 f2 roots xw2 s cnt false ∧ f2.b = b ∧ f2.t = t ∧ Below w.heap.size w w') := by
  have hw : Below w4.heap.size w4 w := P.bl.trans (hb.mono P.bl.size)
  have hc : cnt < 18446744073709551616 := by have := P.ms; omega
  obtain ⟨k1, k2⟩ := st_back cnt hc
  have h := resume_c w B1 sp g v ws b t e (hsp.below hw) hl l F.hp A2 roots c2 ((F.rd.below hw).more hw.size) F.rt hrw m F.m8 hE A (uintL (BitVec.ofNat 64 cnt)) c hst (by have : (uintL (BitVec.ofNat 64 cnt)).length ≤ 10 := uintF_len 9 _; omega)
  rw [k1, k2, P.re, ← F.M1, ← hn] at h
  exact h
theorem step3 (F : PlF w4 Br R A3 ws b t l m A2 M roots) (P : PlC w4 Br X R N Pb A3 c3 ws b t E l m A2 M c2 roots Z S Q f xw s cnt W0) (w : World) (hb : Below W0.heap.size W0 w) :
    Calls Try.prog 15 #[.pointer (some ⟨Q, 0, none⟩), .int .i64 3] w (fun r w' => ∃ (x : Bool) (er : Int), r = .returned (.tuple #[.bool x, .int .i64 er]) ∧ Kept S w w') := by
  have h := step_c w cnt (by rw [P.fb, P.ft]; exact F.hp) F.rt (P.co.below hb) (m := m) (by rw [P.fb, P.ft]; exact P.si) 3 (by decide) P.ms
  refine h.mono ?_
  intro r w' hk
  cases hg : goS (roots.map rootP) (3 : Int).toNat s cnt with
  | none =>
    rw [hg] at hk
    obtain ⟨rfl, k, _⟩ := hk
    exact ⟨_, _, rfl, k⟩
  | some x =>
    obtain ⟨a, c'⟩ := x
    rw [hg] at hk
    obtain ⟨rfl, k, _⟩ := hk
    exact ⟨_, _, rfl, k⟩
/-- The resumed collector takes the old one's place. -/
theorem PlC.swap (F : PlF w4 Br R A3 ws b t l m A2 M roots) (P : PlC w4 Br X R N Pb A3 c3 ws b t E l m A2 M c2 roots Z S Q f xw s cnt W0) {w w' w2 : World} (hb : Below W0.heap.size W0 w) {S2 : Nat → Prop} {Q2 : Nat} {f2 : CoF} {xw2 : Value} (hco : CoAt w' w.heap.size S2 Q2 f2 roots xw2 s cnt false) (fb : f2.b = b) (ft : f2.t = t) (hb2 : Below w.heap.size w w') (k : Kept S w' w2) :
    PlC w4 Br X R N Pb A3 c3 ws b t E l m A2 M c2 roots Z S2 Q2 f2 xw2 s cnt w2 := by
  have hw : Below w4.heap.size w4 w := P.bl.trans (hb.mono P.bl.size)
  have hw' : Below w4.heap.size w4 w' := hw.trans (hb2.mono hw.size)
  have hSo : ∀ j, S j → w4.heap.size ≤ j ∧ j < w.heap.size := fun j hj => ⟨(P.co.own j hj).1, Nat.lt_of_lt_of_le (P.co.own j hj).2 hb.size⟩
  have hs1 := hb2.size
  have paw := (P.pa.below hb).below hb2
  refine ⟨(hco.kept k (fun j hj hs => by have := (hco.own j hj).1; have := (hSo j hs).2; omega)).low hw.size, fb, ft, P.si, P.run, P.re, P.ms, ?_, hw'.trans (k.below hw'.size (fun j hj => (hSo j hj).1))⟩
  have pa2 : PaAt (fun j => S j ∨ S2 j) w' Br X R N Pb A3 c3 ws b t E l m A2 M c2 false s := by
    obtain ⟨ov, xs, h1, h2, h3, h4, h5, h6, h7⟩ := P.pa.below hb
    have hf : ∀ j, S2 j → w.heap.size ≤ j ∧ j < w'.heap.size := fun j hj => hco.own j hj
    refine ⟨ov, xs, h1.widen hb2 (fun j hj => ?_), h2.below hb2 h2.lt, h3.below hb2, fun j hj => ⟨(h4 j hj).1, fun e => ?_⟩, fun e => ?_, h6, h7⟩
    · rcases hj with (hj | hj) | hj
      · exact .inl (.inl hj)
      · exact .inr (hf j hj)
      · exact .inl (.inr hj)
    · rcases e with e | e
      · exact (h4 j hj).2 e
      · have := (hf j e).1; have := (h3.lt j hj).2; omega
    · rcases e with e | e
      · exact h5 e
      · have := (hf Pb e).1; have := h2.lt; omega
  obtain ⟨ov, xs, h1, h2, h3, h4, h5, h6, h7⟩ := pa2
  refine ⟨ov, xs, h1.kept2 k (fun j hj => ⟨.inl (.inl hj), (hSo j hj).1⟩) hw'.size F.R4 F.A4 (fun j hj => ?_), k.bk h2 (fun e => h5 (.inl e)), k.ow h3 (fun j hj e => (h4 j hj).2 (.inl e)), fun j hj => ⟨(h4 j hj).1, fun e => (h4 j hj).2 (.inr e)⟩, fun e => h5 (.inr e), h6, h7⟩
  rcases hj with hj | hj
  · exact .inl (.inl (.inr hj))
  · exact .inl (.inr hj)
end
end Go.Proofs.Ytbanbpphadgoiaa
/- StepPlays: how both begin. Conditions: lengths. -/
namespace Go.Proofs.Ytbanbpphadgoiaa
set_option linter.unusedVariables false
set_option linter.unusedSimpArgs false
open Go.RowKit Go.Maps
set_option maxHeartbeats 2000000
set_option maxRecDepth 100000
section
variable {w : World} {B s g R : Nat} {v : Value} {ws : List (BitVec 64)} {b t e : Nat} {A : Option Addr} {c : Nat} {l : List Nat} {A2 : Option Addr} {roots : List Int} {c2 : Nat}
/-- New and the reference's Copy: the same error, or a collector and all or nothing. -/
theorem nw_both (p : SpAt w B s g v ws b t e) (q : RefAt w R A c ws b t e) (hl : ws.length ≤ 8192) (ho : objF ws t (t + 1) b = some l) (hr : Rd zV w w.heap.size A2 roots) (hrl : roots.length ≤ 100000) (hrw : ∀ r ∈ roots, kW r) (words : Int) (hk : kW words) :
    (∃ E : Int, E ≠ 0 ∧ E ≠ 6 ∧ (∀ W, Below w.heap.size w W → Calls Try.prog 10 #[.pointer (some ⟨s, 0, none⟩), .slice A2 roots.length c2, .int .i64 words] W (RetP (.tuple #[.pointer none, .int .i64 E]) W)) ∧ (∀ W, Below w.heap.size w W → Calls Try.prog 11 #[.pointer (some ⟨R, 0, none⟩), .slice A2 roots.length c2, .int .i64 words] W (RetP (.tuple #[.pointer none, .slice none 0 0, .int .i64 E]) W))) ∨
    (∃ m : Nat, words = (m : Int) ∧ m ≤ 8192 ∧ checkE ws b t roots = 0 ∧ l.all (wellN ws l) = true ∧ roots.all (rootB l) = true ∧ (∀ W, Below w.heap.size w W → Calls Try.prog 10 #[.pointer (some ⟨s, 0, none⟩), .slice A2 roots.length c2, .int .i64 words] W (fun r w' => ∃ (S : Nat → Prop) (Q : Nat) (f : CoF) (xw : Value), r = .returned (.tuple #[.pointer (some ⟨Q, 0, none⟩), .int .i64 0]) ∧ CoAt w' W.heap.size S Q f roots xw (NewS ws m) 0 false ∧ f.b = b ∧ f.t = t ∧ Below W.heap.size W w')) ∧ (∀ W, Below w.heap.size w W → Calls Try.prog 11 #[.pointer (some ⟨R, 0, none⟩), .slice A2 roots.length c2, .int .i64 words] W (RCopyR W m roots.length (copyC ws m (roots.map rootP))))) := by
  have hbt := p.bt
  have htw : t ≤ ws.length := Nat.le_trans p.te p.el
  by_cases hw : words < 0 ∨ 8192 < words
  · exact .inl ⟨1, by decide, by decide, fun W _ => snew_err W _ A2 _ c2 words 1 (by decide) (Lib.hid (cnew_words W _ A2 _ c2 words hw hk)), fun W _ => rcopy_words W R A2 _ c2 words hw⟩
  · obtain ⟨m, rfl⟩ : ∃ m : Nat, words = (m : Int) := ⟨words.toNat, by omega⟩
    have hm : m ≤ 8192 := by omega
    by_cases hE : checkE ws b t roots = 0
    · obtain ⟨h1, h2⟩ := check0 ho hE
      exact .inr ⟨m, rfl, hm, hE, h1, h2, fun W hb => snew_ok W B s g v ws b t e (p.below hb) hl A2 roots c2 ((hr.below hb).more hb.size) hrl hrw m hm hE, fun W hb => rcopy_ok W R A c ws b t e (q.below hb) hbt htw hl l ho h1 A2 roots c2 ((hr.below hb).more hb.size) hrl h2 m hm⟩
    · have h6 : checkE ws b t roots ≠ 6 := by
        unfold checkE
        rw [ho]
        simp only
        split
        · split <;> decide
        · decide
      exact .inl ⟨_, hE, h6, fun W hb => snew_err W _ A2 _ c2 m _ hE (Lib.hid (cnew_err W B s g v ws b t e (p.below hb) hl A2 roots c2 ((hr.below hb).more hb.size) hrl hrw m hm hE)), fun W hb => rcopy_bad W R A c ws b t e (q.below hb) hbt htw hl l ho A2 roots c2 ((hr.below hb).more hb.size) hrl m hm hE⟩
end
section
variable {S : Nat → Prop} {W : World} {B X R N q : Nat} {rA : Option Addr} {rc : Nat} {ws : List (BitVec 64)} {b t e : Nat} {l : List Nat} {m : Nat} {A2 : Option Addr} {M c2 : Nat}
/-- The document's collector, at its start. -/
theorem pa_start (h : RcAt W B X R N rA rc (some ⟨q, 0, none⟩) m (.slice none 0 0) (.slice none 0 0) ws b t e (List.replicate m 0#64) 0 [] 0 false) (H : Heap ws l b t) (hm : m ≤ 8192) (hS : ∀ k, S k → k < B) :
    PaAt S (W.alloc (.cells #[.pointer (some ⟨X, 0, none⟩), .slice A2 M c2, .slice none 0 0] 41)) B X R N W.heap.size rA rc ws b t e l m A2 M c2 false (NewS ws m) := by
  have hB := h.lts.2.2.2.2.2
  obtain ⟨n1, n2, n3⟩ := h.XN
  have hs0 : RS S W B X R N rA rc ws b t e l m (NewS ws m).c 0 false := by
    refine ⟨some ⟨q, 0, none⟩, m, _, _, [], h, RelU.start H m, inv_start H hm, by simp [NewS], fun k hk => ⟨by have := hS k hk; omega, fun e => ?_⟩⟩
    have := hS k hk
    rcases e with e | e | e | e | e
    · omega
    · omega
    · cases e
    · cases e
    · have := (h.row.lt k (by
        have e2 : (Value.slice (some ⟨q, 0, none⟩) (List.replicate m 0#64).length m).ownBlock = some k := e
        exact e2)).1
      omega
  have hb := Gw.alloc W (.cells #[.pointer (some ⟨X, 0, none⟩), .slice A2 M c2, .slice none 0 0] 41)
  have e1 : (W.alloc (.cells #[.pointer (some ⟨X, 0, none⟩), .slice A2 M c2, .slice none 0 0] 41)).heap.size = W.heap.size + 1 := by unfold World.alloc; simp
  refine ⟨.slice none 0 0, [], hs0.widen hb (fun k hk => ?_), Bk.new W _ _, Ow.nil_ _ _ _ _, fun k hk => (by cases hk), fun hk => by have := hS _ hk; omega, hB, fun _ => rfl⟩
  rcases hk with hk | hk | hk
  · exact .inl hk
  · exact .inr ⟨by omega, by omega⟩
  · cases hk
end
end Go.Proofs.Ytbanbpphadgoiaa
/- loamlaw15.Ints of two rows that are alike. Conditions: lengths. -/
namespace Go.Proofs.Ytbanbpphadgoiaa
set_option linter.unusedVariables false
set_option linter.unusedSimpArgs false
open Go.RowKit Go.Maps
set_option maxHeartbeats 1000000
set_option maxRecDepth 100000
theorem inz_r (Q : Exit → Act → World → Prop) (a0 : Act) (w : World) (a b : Addr) (N j c1 c2 : Nat) (z : Int) (h1 : a.block < w.heap.size) (h2 : b.block < w.heap.size) (k1 : w.cell? (a.add j) = some (.int .i64 z)) (k2 : w.cell? (b.add j) = some (.int .i64 z)) (p1 : (0 : Int) ≤ (j : Int)) (p2 : (j : Int) < (N : Int)) (hsz : a0.tmps.size = 26) (sl0 : a0.tmps.getD 0 undef = .slice (some a) N c1) (sl1 : a0.tmps.getD 1 undef = .slice (some b) N c2) (sl5 : a0.tmps.getD 5 undef = .int .i64 j)
    (fin : ∀ (vals : Nat → Value) (w1 : World), Below w.heap.size w w1 → (IsV (.bool false)) (vals 8) w1 → Q .normal (putD vals [17, 18, 19, 20, 21, 22, 23, 24, 25] 0 a0) w1) :
    (Code.region 6 (regIn Try.f50 6) true).wp Try.prog Q a0 w := by
  refine region_by (G := fun w w1 => Below w.heap.size w w1) [IsV (.slice (some a) N c1),
    IsV (.int .i64 j),
    IsV (.pointer (some (a.add j))),
    IsV (.int .i64 z),
    IsV (.slice (some b) N c2),
    IsV (.int .i64 j),
    IsV (.pointer (some (b.add j))),
    IsV (.int .i64 z),
    IsV (.bool false)]
    [17, 18, 19, 20, 21, 22, 23, 24, 25] (by kernel_rfl) (Gw.drew _) Gw.trans (by rw [hsz]; kernel_rfl) (by kernel_rfl) ?_ ?_ ?_
  · intro f hf
    simp only [List.mem_cons, List.not_mem_nil, or_false] at hf
    rcases hf with rfl | rfl | rfl | rfl | rfl | rfl | rfl | rfl | rfl <;> intro v a b h g <;> first | exact IsV.mono h
  · refine ⟨?_, ?_, ?_, ?_, ?_, ?_, ?_, ?_, ?_, trivial⟩
    · exact owes_mv 0 (by kernel_rfl) (by kernel_rfl) (by kernel_rfl) sl0 (fun _ => rfl)
    · exact owes_mv 5 (by kernel_rfl) (by kernel_rfl) (by kernel_rfl) sl5 (fun _ => rfl)
    · refine owes_v (Go.Op.indexAddr 23 (Go.Operand.tmp 17) (Go.Operand.tmp 18)) 0 [0, 1] (by kernel_rfl) (by kernel_rfl) (by kernel_rfl) rfl fun vals w1 ρ hG hF hρ hcst hfun => ?_
      have e17 : ρ (.tmp 17) = .slice (some a) N c1 := ((hρ 17).trans (slotJ [0, 1] (by rw [hsz]; decide) (by kernel_rfl))).trans (hF 0 (by decide))
      have e18 : ρ (.tmp 18) = .int .i64 j := ((hρ 18).trans (slotJ [0, 1] (by rw [hsz]; decide) (by kernel_rfl))).trans (hF 1 (by decide))
      clear hρ hF hcst hfun sl0 sl1 sl5 fin
      exact opv_val (by go_simp <;> rfl) ⟨gw_self _, rfl⟩
    · refine owes_v (Go.Op.load 3 (Go.Operand.tmp 19)) 3 [2] (by kernel_rfl) (by kernel_rfl) (by kernel_rfl) rfl fun vals w1 ρ hG hF hρ hcst hfun => ?_
      have e19 : ρ (.tmp 19) = .pointer (some (a.add j)) := ((hρ 19).trans (slotJ [2] (by rw [hsz]; decide) (by kernel_rfl))).trans (hF 2 (by decide))
      have k := (hG.cell (p := a.add j) (by rw [add_block]; exact h1)).trans k1
      clear hρ hF hcst hfun sl0 sl1 sl5 fin
      exact opv_val (by go_simp <;> rfl) ⟨gw_self _, rfl⟩
    · exact owes_mv 1 (by kernel_rfl) (by kernel_rfl) (by kernel_rfl) sl1 (fun _ => rfl)
    · exact owes_mv 5 (by kernel_rfl) (by kernel_rfl) (by kernel_rfl) sl5 (fun _ => rfl)
    · refine owes_v (Go.Op.indexAddr 23 (Go.Operand.tmp 21) (Go.Operand.tmp 22)) 0 [4, 5] (by kernel_rfl) (by kernel_rfl) (by kernel_rfl) rfl fun vals w1 ρ hG hF hρ hcst hfun => ?_
      have e21 : ρ (.tmp 21) = .slice (some b) N c2 := ((hρ 21).trans (slotJ [4, 5] (by rw [hsz]; decide) (by kernel_rfl))).trans (hF 4 (by decide))
      have e22 : ρ (.tmp 22) = .int .i64 j := ((hρ 22).trans (slotJ [4, 5] (by rw [hsz]; decide) (by kernel_rfl))).trans (hF 5 (by decide))
      clear hρ hF hcst hfun sl0 sl1 sl5 fin
      exact opv_val (by go_simp <;> rfl) ⟨gw_self _, rfl⟩
    · refine owes_v (Go.Op.load 3 (Go.Operand.tmp 23)) 3 [6] (by kernel_rfl) (by kernel_rfl) (by kernel_rfl) rfl fun vals w1 ρ hG hF hρ hcst hfun => ?_
      have e23 : ρ (.tmp 23) = .pointer (some (b.add j)) := ((hρ 23).trans (slotJ [6] (by rw [hsz]; decide) (by kernel_rfl))).trans (hF 6 (by decide))
      have k := (hG.cell (p := b.add j) (by rw [add_block]; exact h2)).trans k2
      clear hρ hF hcst hfun sl0 sl1 sl5 fin
      exact opv_val (by go_simp <;> rfl) ⟨gw_self _, rfl⟩
    · refine owes_v (Go.Op.binOp Go.BinOp.neq 3 (Go.Operand.tmp 20) (Go.Operand.tmp 24) 3) 4 [3, 7] (by kernel_rfl) (by kernel_rfl) (by kernel_rfl) rfl fun vals w1 ρ hG hF hρ hcst hfun => ?_
      have e20 : ρ (.tmp 20) = .int .i64 z := ((hρ 20).trans (slotJ [3, 7] (by rw [hsz]; decide) (by kernel_rfl))).trans (hF 3 (by decide))
      have e24 : ρ (.tmp 24) = .int .i64 z := ((hρ 24).trans (slotJ [3, 7] (by rw [hsz]; decide) (by kernel_rfl))).trans (hF 7 (by decide))
      clear hρ hF hcst hfun sl0 sl1 sl5 fin
      exact opv_val (by go_simp <;> rfl) ⟨gw_self _, rfl⟩
  · intro vals w1 hG hF
    exact fin vals w1 hG (hF 8 (by decide +kernel))
theorem ints_z (w : World) (A1 A2 : Option Addr) (c1 c2 N : Nat) (xs : List Int) (hN : N = xs.length) (hl : N ≤ 1000) (h1 : Rd zV w w.heap.size A1 xs) (h2 : Rd zV w w.heap.size A2 xs) : Calls Try.prog 23 #[.slice A1 N c1, .slice A2 N c2] w (RetP (.bool true) w) := by
  have HI : Hid (Calls Try.prog 50 #[.slice A1 N c1, .slice A2 N c2] w (RetP (.bool true) w)) := Lib.hid (by
    have HN := Lib.hid hN
    have HR := Lib.hid (And.intro h1 h2)
    have hN2 : (N : Int) ≤ 1000 := by omega
    clear h1 h2 hl hN
    go_enter Try.func50, Try.ntmps50
    go_wp2_with fail
    go_loopw [5] (fun i wr => ∃ j : Nat, j ≤ N ∧ i = .int .i64 j ∧ Hid (Below w.heap.size w wr)) (fun i _ => N - (Go.RowKit.intOf i).toNat)
    case atStart => exact ⟨0, Nat.zero_le _, rfl, Lib.hid (Below.refl _ _)⟩
    case round =>
      obtain ⟨j, hj, rfl, hB⟩ := hrel
      by_cases hlt : j < N
      · have p1 : (0 : Int) ≤ (j : Int) := by omega
        have p2 : (j : Int) < (N : Int) := by omega
        have hjl : j < xs.length := by rw [← HN.out]; exact hlt
        obtain ⟨q1, rfl, hq1, k1⟩ := (HR.out.1.below hB.out) j hjl
        obtain ⟨q2, rfl, hq2, k2⟩ := (HR.out.2.below hB.out) j hjl
        obtain ⟨z, hz⟩ : ∃ z, z = xs[j] := ⟨_, rfl⟩
        rw [← hz] at k1 k2
        unfold zV at k1 k2
        have hsz := hB.out.size
        have HReg := Lib.hid (fun Q a0 => inz_r Q a0 wr q1 q2 N j c1 c2 z (Nat.lt_of_lt_of_le hq1 hsz) (Nat.lt_of_lt_of_le hq2 hsz) k1 k2 p1 p2)
        clear hz hjl k1 k2
        go_wp2_with fail
        refine HReg.out _ _ rfl rfl rfl rfl ?_
        intro vals w2 hG h25
        unfold IsV at h25
        simp only [putD, Act.put, List.setIfInBounds_toArray, List.set_cons_zero, List.set_cons_succ, h25]
        have HB2 := Lib.hid (hB.out.trans (hG.mono hB.out.size))
        clear h25 hG
        go_wp2_with fail
        go_roundw
        case rel => exact ⟨j + 1, by omega, by go_num, HB2⟩
        case measure => simp [Go.RowKit.intOf]; omega
      · obtain rfl : j = N := by omega
        go_wp2_with fail
        go_ret
        exact ⟨rfl, hB.out⟩)
  clear h1 h2 hN hl
  go_enter Try.func23, Try.ntmps23
  go_wp2_with fail
  refine Calls.mono HI.out ?_
  rintro r w1 ⟨rfl, b1⟩
  have HB := Lib.hid b1
  clear b1 HI
  go_wp2_with fail
  go_ret
  exact ⟨rfl, HB.out⟩
end Go.Proofs.Ytbanbpphadgoiaa
/- How an argument of type []uint64 is opened. No conditions. -/
namespace Go.Proofs.Ytbanbpphadgoiaa
set_option linter.unusedVariables false
set_option linter.unusedSimpArgs false
open Go.ChangeShapes Go.WideShapes Go.ChangeAt Go.RowKit
theorem open_words {H : Type} {enc : TypeId × Value → H} {P : Program} {W : World} {base : Nat} {sp : Nat → Bool} {hd : Bool} {r : Reach} {b0 : Nat} {t e : TypeId} {v : Value} {d : DataW H} {p : List MemPlace}
    (ht : P.underlying t = some (.slice e)) (he : P.underlying e = some (.int .u64)) (hc : P.cellsOf e = 1)
    (hv : Value.okWide P W r b0 t v) (h : DataW.Trod enc P W base sp hd t v d p) :
    ∃ (A : Option Addr) (bs : List (BitVec 64)) (c : Nat), v = .slice A bs.length c ∧ bs.length ≤ c ∧ c ≤ maxLen ∧ Rd u64v W W.heap.size A bs := by
  obtain ⟨a0, len, cap, rfl⟩ := okWide_slice ht hv
  obtain ⟨fuel, hf⟩ := h
  rcases open_ints ht he hc hf with ⟨hcs, _⟩ | ⟨x, l, c, zs, hcs, _, hl, hm, hz, _, hcell, hwz⟩
  · simp [Value.cells] at hcs
    obtain ⟨rfl, rfl, rfl⟩ := hcs
    exact ⟨none, [], 0, rfl, Nat.le_refl _, by simp [maxLen], Rd.nil⟩
  · simp [Value.cells] at hcs
    obtain ⟨rfl, rfl, rfl⟩ := hcs
    have hlen : len ≤ zs.length := by rw [hz]; split <;> omega
    refine ⟨some x, (zs.take len).map (BitVec.ofInt 64), cap, by simp; omega, by simp; omega, hm, fun j hj => ?_⟩
    have hj' : j < len := by simp at hj; omega
    have hc1 := hcell j (by omega)
    have hb := cell_lt hc1
    rw [add_block] at hb
    refine ⟨x, rfl, hb, ?_⟩
    rw [hc1]
    have hw := hwz (zs.getD j 0) (by rw [List.getD_eq_getElem?_getD, List.getElem?_eq_getElem (by omega)]; exact List.getElem_mem _)
    rw [wfu64 hw]
    have e : zs.getD j 0 = zs[j]'(by omega) := by rw [List.getD_eq_getElem?_getD, List.getElem?_eq_getElem (by omega)]; rfl
    rw [e]
    simp [u64v]
end Go.Proofs.Ytbanbpphadgoiaa
/- How arguments of types []bool and []int are opened. No conditions. -/
namespace Go.Proofs.Ytbanbpphadgoiaa
set_option linter.unusedVariables false
set_option linter.unusedSimpArgs false
open Go.ChangeShapes Go.WideShapes Go.ChangeAt Go.RowKit
def boZ (b : Bool) : Value := .bool b
def inV (k : Int) : Value := .int .i64 k
theorem open_intz {H : Type} {enc : TypeId × Value → H} {P : Program} {W : World} {base : Nat} {sp : Nat → Bool} {hd : Bool} {r : Reach} {b0 : Nat} {t e : TypeId} {v : Value} {d : DataW H} {p : List MemPlace}
    (ht : P.underlying t = some (.slice e)) (he : P.underlying e = some (.int .i64)) (hc : P.cellsOf e = 1)
    (hv : Value.okWide P W r b0 t v) (h : DataW.Trod enc P W base sp hd t v d p) :
    ∃ (A : Option Addr) (bs : List Int) (c : Nat), v = .slice A bs.length c ∧ bs.length ≤ c ∧ c ≤ maxLen ∧ (Rd inV W W.heap.size A bs ∧ ∀ x ∈ bs, (Lit.int .i64 x).wf = true) := by
  obtain ⟨a0, len, cap, rfl⟩ := okWide_slice ht hv
  obtain ⟨fuel, hf⟩ := h
  rcases open_ints ht he hc hf with ⟨hcs, _⟩ | ⟨x, l, c, zs, hcs, _, hl, hm, hz, _, hcell, hwz⟩
  · simp [Value.cells] at hcs
    obtain ⟨rfl, rfl, rfl⟩ := hcs
    exact ⟨none, [], 0, rfl, Nat.le_refl _, by simp [maxLen], Rd.nil, fun x hx => by cases hx⟩
  · simp [Value.cells] at hcs
    obtain ⟨rfl, rfl, rfl⟩ := hcs
    have hlen : len ≤ zs.length := by rw [hz]; split <;> omega
    refine ⟨some x, zs.take len, cap, by simp; omega, by simp; omega, hm, fun j hj => ?_, fun y hy => hwz y (List.mem_of_mem_take hy)⟩
    have hj' : j < len := by simp at hj; omega
    have hc1 := hcell j (by omega)
    have hb := cell_lt hc1
    rw [add_block] at hb
    refine ⟨x, rfl, hb, ?_⟩
    rw [hc1, List.getD_eq_getElem?_getD, List.getElem?_eq_getElem (by omega)]
    simp [inV]
end Go.Proofs.Ytbanbpphadgoiaa
