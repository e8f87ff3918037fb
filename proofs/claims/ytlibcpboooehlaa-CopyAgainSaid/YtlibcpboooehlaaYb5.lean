/- Texts joined: CyJ CyK ObO InZ OpenW OpenZ. -/
import Derived.Test.YtlibcpboooehlaaYb4
import Derived.Test.YtlibcpboooehlaaObD
import Derived.Test.YtlibcpboooehlaaSpH
import Derived.Test.YtlibcpboooehlaaFrame
import Derived.Test.YtlibcpboooehlaaMmA
import Derived.Test.YtlibcpboooehlaaMem
import Derived.Deep.Grids
/- Live; known of layer 21. No conditions. -/
namespace Go.Proofs.Ytlibcpboooehlaa
set_option linter.unusedVariables false
set_option linter.unusedSimpArgs false
open Go.RowKit Go.Maps
set_option maxHeartbeats 4000000
set_option maxRecDepth 100000
/-- What a copy tells: the roots' places, the end, the words. -/
def tellC (x : Option (List Nat × Cy)) : Option (List Nat × Nat × List (BitVec 64)) := x.map fun r => (r.1, r.2.top, r.2.T)
theorem live_c (w : World) (B s g : Nat) (v : Value) (ws : List (BitVec 64)) (b t e : Nat) (p : SpAt w B s g v ws b t e) (hl : ws.length ≤ 8192) (l : List Nat) (ho : objF ws t (t + 1) b = some l) (hw : l.all (wellN ws l) = true) (A : Option Addr) (roots : List Int) (ca : Nat) (hr : Rd zV w w.heap.size A roots) (hrl : roots.length ≤ 100000) (hrw : ∀ r ∈ roots, kW r) (hra : roots.all (rootB l) = true) :
    Calls Try.prog 13 #[.pointer (some ⟨s, 0, none⟩), .slice A roots.length ca] w (RetP (match copyC ws 8192 (roots.map rootP) with
      | some (_, d) => .tuple #[.int .i64 d.top, .int .i64 0]
      | none => .tuple #[.int .i64 0, .int .i64 6]) w) := by
  have HC := Lib.hid (copy_c w B s g v ws b t e p hl l ho hw A roots ca hr hrl hrw hra 8192 (Nat.le_refl _))
  obtain ⟨n, hn⟩ : ∃ n, n = roots.length := ⟨_, rfl⟩
  rw [← hn] at HC ⊢
  obtain ⟨x, hx⟩ : ∃ x, x = copyC ws 8192 (roots.map rootP) := ⟨_, rfl⟩
  rw [← hx] at HC ⊢
  clear p hl ho hw hr hrl hrw hra hn hx
  cases x with
  | none =>
    have HC2 := Lib.hid (show Calls Try.prog 9 #[.pointer (some ⟨s, 0, none⟩), .slice A n ca, .int .i64 8192] w (RetP (.tuple #[.pointer none, .slice none 0 0, .int .i64 6]) w) from HC.out)
    go_enter Try.func13, Try.ntmps13
    go_wp2_with fail
    refine Calls.mono HC2.out ?_
    rintro r w2 ⟨rfl, b2⟩
    have HB2 := Lib.hid b2
    clear b2
    go_wp2_with fail
    go_ret2
    exact ⟨rfl, HB2.out⟩
  | some z =>
    obtain ⟨qs, d⟩ := z
    have HC2 := Lib.hid (show Calls Try.prog 9 #[.pointer (some ⟨s, 0, none⟩), .slice A n ca, .int .i64 8192] w (fun r w' => ∃ s' g' v' q, r = .returned (.tuple #[.pointer (some ⟨s', 0, none⟩), .slice (some ⟨q, 0, none⟩) n n, .int .i64 0]) ∧ SpAt w' w.heap.size s' g' v' d.T 0 d.top 8192 ∧ d.T.length = 8192 ∧ Ow zV 3 w' w.heap.size (.slice (some ⟨q, 0, none⟩) n n) (backZ qs) ∧ Below w.heap.size w w') from HC.out)
    go_enter Try.func13, Try.ntmps13
    go_wp2_with fail
    refine Calls.mono HC2.out ?_
    rintro r w2 ⟨s', g', v', q, rfl, h2, hl2, _, b2⟩
    have HB2 := Lib.hid b2
    have HU := Lib.hid (used_c w2 w.heap.size s' g' v' d.T 0 d.top 8192 h2 (by omega))
    have htop : (d.top : Int) ≤ 8192 := by have := h2.te; omega
    clear b2 h2 hl2
    go_wp2_with fail
    refine Calls.mono HU.out ?_
    rintro r w3 ⟨rfl, b3⟩
    have HB3 := Lib.hid (HB2.out.trans (b3.mono HB2.out.size))
    clear b3
    go_wp2_with fail
    go_ret2
    exact ⟨by simp, HB3.out⟩
def kS0 : List (BitVec 64) := List.replicate 20 0#64
def kS1 : List (BitVec 64) := allocW kS0 3 3 (packH 2 0 false 0)
def kS2 : List (BitVec 64) := allocW kS1 6 2 (packH 1 0 false 0)
def kS3 : List (BitVec 64) := kS2.set 7 (BitVec.ofNat 64 7)
theorem kS3_obj : objF kS3 8 9 3 = some [3, 6] := by decide +kernel
theorem kS3_well : [3, 6].all (wellN kS3 [3, 6]) = true := by decide +kernel
theorem kS3_len : kS3.length = 20 := by decide +kernel
theorem kS3_c1 : tellC (copyC kS3 10 [7, 0, 7]) = some ([1, 0, 1], 2, packH 1 0 false 0 :: 1#64 :: List.replicate 8 0#64) := by decide +kernel
theorem kS3_c2 : copyC kS3 1 [7] = none := by decide +kernel
theorem kS3_c3 : (tellC (copyC kS3 8192 [7])).map (fun r => r.2.1) = some 2 := by decide +kernel
end Go.Proofs.Ytlibcpboooehlaa
/- known of layer 21 returns true. No conditions. -/
namespace Go.Proofs.Ytlibcpboooehlaa
set_option linter.unusedVariables false
set_option linter.unusedSimpArgs false
open Go.RowKit Go.Maps
set_option maxHeartbeats 4000000
set_option maxRecDepth 100000
theorem kS_lens : kS0.length = 20 ∧ kS1.length = 20 ∧ kS2.length = 20 := by decide +kernel
theorem k21_a (w : World) (B s g : Nat) (v : Value) (h : SpAt w B s g v kS0 3 3 20) : Calls Try.prog 18 #[.pointer (some ⟨s, 0, none⟩), .agg #[.int .i64 2, .int .i64 0, .bool false, .int .i64 0]] w fun r w' => r = .returned (.tuple #[.int .i64 3, .int .i64 0]) ∧ SpAt w' B s g v kS1 3 6 20 ∧ Below B w w' :=
  alloc_ok w B s g v kS0 3 3 20 h (by rw [kS_lens.1]; decide) 2 0 0 3 (by decide) (by decide) (by decide) (by decide)
theorem k21_b (w : World) (B s g : Nat) (v : Value) (h : SpAt w B s g v kS1 3 6 20) : Calls Try.prog 18 #[.pointer (some ⟨s, 0, none⟩), .agg #[.int .i64 1, .int .i64 0, .bool false, .int .i64 0]] w fun r w' => r = .returned (.tuple #[.int .i64 6, .int .i64 0]) ∧ SpAt w' B s g v kS2 3 8 20 ∧ Below B w w' :=
  alloc_ok w B s g v kS1 3 6 20 h (by rw [kS_lens.2.1]; decide) 1 0 0 2 (by decide) (by decide) (by decide) (by decide)
theorem kS2_good : goodX (kS2.getD 6 0#64) (8 - 6) = true ∧ 0 < P0 (kS2.getD 6 0#64) := by decide +kernel
theorem k21_s (w : World) (B s g : Nat) (v : Value) (h : SpAt w B s g v kS2 3 8 20) : Calls Try.prog 19 #[.pointer (some ⟨s, 0, none⟩), .int .i64 6, .int .i64 0, .int .i64 6] w fun r w' => r = .returned (.int .i64 0) ∧ SpAt w' B s g v kS3 3 8 20 ∧ Below B w w' :=
  (setptr_to w B s g v kS2 3 8 20 h (by rw [kS_lens.2.2]; decide) 6 0 6 (by decide) (by decide) kS2_good.1 kS2_good.2 (by decide) (by decide)).mono fun r w' ⟨h1, h2, _, h4⟩ => ⟨h1, h2, h4⟩
theorem rd_zs {w : World} {k : Nat} {E : TypeId} {xs : List Int} (h : Bk w k E (xs.map zV).toArray) : Rd zV w w.heap.size (some ⟨k, 0, none⟩) xs := fun j hj => by
  refine ⟨⟨k, 0, none⟩, rfl, h.lt, ?_⟩
  have h2 := h.cell j
  rw [show (⟨k, 0, none⟩ : Addr).add (j : Nat) = ⟨k, j, none⟩ from by simp [Addr.add]; exact fun h => h.symm]
  rw [h2]
  simp [hj]
theorem k21_c1 : ∃ d, copyC kS3 10 [7, 0, 7] = some ([1, 0, 1], d) ∧ d.top = 2 ∧ d.T = packH 1 0 false 0 :: 1#64 :: List.replicate 8 0#64 := by
  have h := kS3_c1
  cases hc : copyC kS3 10 [7, 0, 7] with
  | none => rw [hc] at h; cases h
  | some z =>
    obtain ⟨qs, d⟩ := z
    rw [hc] at h
    unfold tellC at h
    simp only [Option.map_some, Option.some.injEq, Prod.mk.injEq] at h
    exact ⟨d, by rw [h.1], h.2.1, h.2.2⟩
theorem k21_c3 : ∃ qs d, copyC kS3 8192 [7] = some (qs, d) ∧ d.top = 2 := by
  have h := kS3_c3
  cases hc : copyC kS3 8192 [7] with
  | none => rw [hc] at h; cases h
  | some z =>
    obtain ⟨qs, d⟩ := z
    rw [hc] at h
    unfold tellC at h
    simp only [Option.map_some, Option.some.injEq] at h
    exact ⟨qs, d, rfl, h⟩
theorem k21_kw : ∀ r ∈ [(6 : Int), -1, 6], kW r := by
  intro r hr
  simp only [List.mem_cons, List.not_mem_nil, or_false] at hr
  rcases hr with rfl | rfl | rfl <;> (unfold kW; decide)
theorem k21_p (w : World) (B s g : Nat) (v : Value) (T : List (BitVec 64)) (hT : T = packH 1 0 false 0 :: 1#64 :: List.replicate 8 0#64) (h : SpAt w B s g v T 0 2 10) : Calls Try.prog 20 #[.pointer (some ⟨s, 0, none⟩), .int .i64 0, .int .i64 0] w (RetP (.tuple #[.int .i64 0, .int .i64 0]) w) := by
  subst hT
  have e1 : goodX ((packH 1 0 false 0 :: 1#64 :: List.replicate 8 0#64).getD 0 0#64) (2 - 0) = true := by decide +kernel
  have e2 : 0 < P0 ((packH 1 0 false 0 :: 1#64 :: List.replicate 8 0#64).getD 0 0#64) := by decide +kernel
  have e3 : ptV 0 2 ((packH 1 0 false 0 :: 1#64 :: List.replicate 8 0#64).getD (0 + 1 + 0) 0#64) = 0 ∧ ptE 0 2 ((packH 1 0 false 0 :: 1#64 :: List.replicate 8 0#64).getD (0 + 1 + 0) 0#64) = 0 := by decide +kernel
  have h1 := Ptr_c w B s g v _ 0 2 10 h (by simp) 0 0 (by decide) (by decide) e1 e2
  rw [e3.1, e3.2] at h1
  exact h1
theorem known21_c (w : World) : Calls Try.prog 7 #[] w (RetP (.bool true) w) := by
  obtain ⟨d1, c1, t1, u1⟩ := k21_c1
  obtain ⟨q3, d3, c3, t3⟩ := k21_c3
  have HN := Lib.hid (new_in w 20 (by decide))
  have HS := Lib.hid (fun W g v (h : MemAt W w.heap.size g v kS0) => snew_in W w.heap.size g v kS0 3 20 h (by decide) (by rw [kS_lens.1]; decide) (by rw [kS_lens.1]; decide))
  have HA := Lib.hid (fun W s g v (h : SpAt W w.heap.size s g v kS0 3 3 20) => k21_a W w.heap.size s g v h)
  have HB := Lib.hid (fun W s g v (h : SpAt W w.heap.size s g v kS1 3 6 20) => k21_b W w.heap.size s g v h)
  have HP := Lib.hid (fun W s g v (h : SpAt W w.heap.size s g v kS2 3 8 20) => k21_s W w.heap.size s g v h)
  have HC1 := Lib.hid (fun W s g v (h : SpAt W w.heap.size s g v kS3 3 8 20) A ca (hr : Rd zV W W.heap.size A [6, -1, 6]) => show Calls Try.prog 9 #[.pointer (some ⟨s, 0, none⟩), .slice A 3 ca, .int .i64 10] W _ from copy_c W w.heap.size s g v kS3 3 8 20 h (by rw [kS3_len]; decide) [3, 6] kS3_obj kS3_well A [6, -1, 6] ca hr (by decide) k21_kw (by decide) 10 (by decide))
  have HC2 := Lib.hid (fun W s g v (h : SpAt W w.heap.size s g v kS3 3 8 20) A ca (hr : Rd zV W W.heap.size A [6]) => show Calls Try.prog 9 #[.pointer (some ⟨s, 0, none⟩), .slice A 1 ca, .int .i64 1] W _ from copy_c W w.heap.size s g v kS3 3 8 20 h (by rw [kS3_len]; decide) [3, 6] kS3_obj kS3_well A [6] ca hr (by decide) (fun r hr => k21_kw r (by simp at hr; simp [hr])) (by decide) 1 (by decide))
  have HLv := Lib.hid (fun W s g v (h : SpAt W w.heap.size s g v kS3 3 8 20) A ca (hr : Rd zV W W.heap.size A [6]) => show Calls Try.prog 13 #[.pointer (some ⟨s, 0, none⟩), .slice A 1 ca] W _ from live_c W w.heap.size s g v kS3 3 8 20 h (by rw [kS3_len]; decide) [3, 6] kS3_obj kS3_well A [6] ca hr (by decide) (fun r hr => k21_kw r (by simp at hr; simp [hr])) (by decide))
  have f1 : copyC kS3 10 ([6, -1, 6].map rootP) = some ([1, 0, 1], d1) := c1
  have f2 : copyC kS3 1 ([6].map rootP) = none := kS3_c2
  have f3 : copyC kS3 8192 ([6].map rootP) = some (q3, d3) := c3
  simp only [f1] at HC1
  simp only [f2] at HC2
  simp only [f3, t3] at HLv
  have HT1 := Lib.hid (And.intro t1 u1)
  clear c1 c3 t1 u1 t3 f1 f2 f3
  go_enter Try.func7, Try.ntmps7
  go_wp2_with fail
  refine Calls.mono HN.out ?_
  rintro r w2 ⟨g, v, rfl, hm2, b2⟩
  have H2 := Lib.hid (And.intro hm2 b2)
  clear hm2 b2
  go_wp2_with fail
  refine Calls.mono (HS.out w2 g v H2.out.1) ?_
  rintro r w3 ⟨s, rfl, hp3, b3⟩
  have H3 := Lib.hid (And.intro hp3 (H2.out.2.trans (b3.mono H2.out.2.size)))
  have c0 := hp3.four.1
  clear hp3 b3
  go_wp2_with fail
  refine Calls.mono (HA.out w3 s g v H3.out.1) ?_
  rintro r w4 ⟨rfl, hp4, b4⟩
  have H4 := Lib.hid (And.intro hp4 (H3.out.2.trans b4))
  clear hp4 b4 c0
  go_wp2_with fail
  refine Calls.mono (HB.out w4 s g v H4.out.1) ?_
  rintro r w5 ⟨rfl, hp5, b5⟩
  have H5 := Lib.hid (And.intro hp5 (H4.out.2.trans b5))
  clear hp5 b5
  go_wp2_with fail
  refine Calls.mono (HP.out w5 s g v H5.out.1) ?_
  rintro r w6 ⟨rfl, hp6, b6⟩
  have H6 := Lib.hid (And.intro hp6 (H5.out.2.trans b6))
  clear hp6 b6
  go_wp2_with fail
  have hb7 := Gw.alloc w6 (.cells #[.int .i64 6, .int .i64 (-1), .int .i64 6] 3)
  have hr7 := rd_zs (xs := [6, -1, 6]) (Bk.new w6 3 #[.int .i64 6, .int .i64 (-1), .int .i64 6])
  have H7 := Lib.hid (And.intro (H6.out.1.below hb7) (H6.out.2.alloc H6.out.2.size (.cells #[.int .i64 6, .int .i64 (-1), .int .i64 6] 3)))
  refine Calls.mono (HC1.out _ s g v H7.out.1 _ _ hr7) ?_
  rintro r w8 ⟨s', g', v', q, rfl, hp8, hl8, ho8, b8⟩
  have c8 := hp8.four.1
  have e0 := ho8.cell (j := 0) (by decide)
  have e1 := ho8.cell (j := 1) (by decide)
  have e2 := ho8.cell (j := 2) (by decide)
  have hq8 := ho8.ge.2
  rw [HT1.out.1] at hp8
  have ct := hp8.four.2.2.1
  have H8 := Lib.hid (And.intro (H7.out.1.below b8) (And.intro hp8 (H7.out.2.trans (b8.mono H7.out.2.size))))
  have hs8 := hp8.blk.lt
  clear hb7 hr7 H7 b8 hl8 ho8 hp8
  go_wp2_with fail
  refine Calls.mono (k21_p w8 _ s' g' v' d1.T HT1.out.2 H8.out.2.1) ?_
  rintro r w9 ⟨rfl, b9⟩
  have H9 := Lib.hid (And.intro (H8.out.1.below b9) (And.intro (H8.out.2.1.below b9) (H8.out.2.2.trans (b9.mono H8.out.2.2.size))))
  have e0' := (b9.cell (p := ⟨q, 0, none⟩) hq8).trans e0
  have e1' := (b9.cell (p := ⟨q, 1, none⟩) hq8).trans e1
  have e2' := (b9.cell (p := ⟨q, 2, none⟩) hq8).trans e2
  have ct' := (b9.cell (p := ⟨s', 2, none⟩) hs8).trans ct
  have hq9 := Nat.lt_of_lt_of_le hq8 b9.size
  have hs9 := Nat.lt_of_lt_of_le hs8 b9.size
  clear e0 e1 e2 ct c8 b9 hq8 hs8
  go_wp2_with fail
  have hb10 := Gw.alloc w9 (.cells #[.int .i64 6] 3)
  have hr10 := rd_zs (xs := [6]) (Bk.new w9 3 #[.int .i64 6])
  have H10 := Lib.hid (And.intro (H9.out.1.below hb10) (And.intro (H9.out.2.1.below hb10) (H9.out.2.2.alloc H9.out.2.2.size (.cells #[.int .i64 6] 3))))
  refine Calls.mono (HLv.out _ s g v H10.out.1 _ _ hr10) ?_
  rintro r w11 ⟨rfl, b11⟩
  have b11' := hb10.trans (b11.mono hb10.size)
  have e0 := (b11'.cell (p := ⟨q, 0, none⟩) hq9).trans e0'
  have e1 := (b11'.cell (p := ⟨q, 1, none⟩) hq9).trans e1'
  have e2 := (b11'.cell (p := ⟨q, 2, none⟩) hq9).trans e2'
  have ct := (b11'.cell (p := ⟨s', 2, none⟩) hs9).trans ct'
  have hq11 := Nat.lt_of_lt_of_le hq9 b11'.size
  have hs11 := Nat.lt_of_lt_of_le hs9 b11'.size
  have H11 := Lib.hid (And.intro (H10.out.1.below b11) (H10.out.2.2.trans (b11.mono H10.out.2.2.size)))
  clear e0' e1' e2' ct' b11 b11' hb10 hr10 hq9 hs9
  go_wp2_with fail
  have hb12 := Gw.alloc w11 (.cells #[.int .i64 6] 3)
  have hr12 := rd_zs (xs := [6]) (Bk.new w11 3 #[.int .i64 6])
  have H12 := Lib.hid (And.intro (H11.out.1.below hb12) (H11.out.2.alloc H11.out.2.size (.cells #[.int .i64 6] 3)))
  refine Calls.mono (HC2.out _ s g v H12.out.1 _ _ hr12) ?_
  rintro r w13 ⟨rfl, b13⟩
  have b13' := hb12.trans (b13.mono hb12.size)
  have e0' := (b13'.cell (p := ⟨q, 0, none⟩) hq11).trans e0
  have e1' := (b13'.cell (p := ⟨q, 1, none⟩) hq11).trans e1
  have e2' := (b13'.cell (p := ⟨q, 2, none⟩) hq11).trans e2
  have ct' := (b13'.cell (p := ⟨s', 2, none⟩) hs11).trans ct
  have H13 := Lib.hid (H12.out.2.trans (b13.mono H12.out.2.size))
  have z0 : zV ((backZ [1, 0, 1])[0]'(by decide)) = .int .i64 0 := rfl
  have z1 : zV ((backZ [1, 0, 1])[1]'(by decide)) = .int .i64 (-1) := rfl
  have z2 : zV ((backZ [1, 0, 1])[2]'(by decide)) = .int .i64 0 := rfl
  rw [z0] at e0'
  rw [z1] at e1'
  rw [z2] at e2'
  clear e0 e1 e2 ct b13 b13' hb12 hr12 hq11 hs11 z0 z1 z2
  go_wp2_with fail
  go_ret
  exact ⟨rfl, H13.out⟩
end Go.Proofs.Ytlibcpboooehlaa
/- loamlaw16.To: words as a space, or none. Conditions: lengths. -/
namespace Go.Proofs.Ytlibcpboooehlaa
set_option linter.unusedVariables false
set_option linter.unusedSimpArgs false
open Go.RowKit
set_option maxHeartbeats 1000000
set_option maxRecDepth 100000
/-- Is there no such space? -/
def toN (ws : List (BitVec 64)) (b t e : Int) : Prop := (b < 0 ∨ (¬ b < 0 ∧ t < b) ∨ (¬ b < 0 ∧ ¬ t < b ∧ e < t) ∨ (¬ b < 0 ∧ ¬ t < b ∧ ¬ e < t ∧ (ws.length : Int) < e))
theorem to_out (w : World) (A : Option Addr) (ws : List (BitVec 64)) (c : Nat) (hr : Rd u64v w w.heap.size A ws) (hl : ws.length ≤ 8192) (b t e : Int) (ho : toN ws b t e) : Calls Try.prog 8 #[.slice A ws.length c, .int .i64 b, .int .i64 t, .int .i64 e] w (RetP (.pointer none) w) := by
  have HMem := Lib.hid (mem15_c w A c ws hr hl)
  have HOf := Lib.hid (fun W B g v (h : MemAt W B g v ws) => sof_out W (.pointer (some ⟨g, 0, none⟩)) b t e (bare_out W B g v ws b t e h ho))
  obtain ⟨N, hN⟩ : ∃ N, N = ws.length := ⟨_, rfl⟩
  rw [← hN] at HMem ⊢
  clear hr hl hN ho
  go_enter Try.func8, Try.ntmps8
  go_wp2_with fail
  refine Calls.mono HMem.out ?_
  rintro r w2 ⟨g, v, rfl, h2, b2⟩
  have HM2 := Lib.hid (HOf.out w2 _ g v h2)
  have HB2 := Lib.hid b2
  clear h2 b2
  go_wp2_with fail
  refine Calls.mono HM2.out ?_
  rintro r w3 ⟨rfl, rfl⟩
  go_wp2_with fail
  go_ret
  exact ⟨rfl, HB2.out⟩
theorem to_none (w : World) (A : Option Addr) (ws : List (BitVec 64)) (c : Nat) (hr : Rd u64v w w.heap.size A ws) (hl : ws.length ≤ 8192) (b t e : Nat) (hbt : b ≤ t) (hte : t ≤ e) (hel : e ≤ ws.length) (ho : objF ws t (t + 1) b = none) : Calls Try.prog 8 #[.slice A ws.length c, .int .i64 b, .int .i64 t, .int .i64 e] w (RetP (.pointer none) w) := by
  have HMem := Lib.hid (mem15_c w A c ws hr hl)
  have HOf := Lib.hid (fun W B g v (h : MemAt W B g v ws) => sof_none W B g v ws b t e h hbt hte hel (by omega) ho)
  obtain ⟨N, hN⟩ : ∃ N, N = ws.length := ⟨_, rfl⟩
  rw [← hN] at HMem ⊢
  clear hr hl hN ho hbt hte hel
  go_enter Try.func8, Try.ntmps8
  go_wp2_with fail
  refine Calls.mono HMem.out ?_
  rintro r w2 ⟨g, v, rfl, h2, b2⟩
  have HM2 := Lib.hid (HOf.out w2 _ g v h2)
  have HB2 := Lib.hid b2
  clear h2 b2
  go_wp2_with fail
  refine Calls.mono HM2.out ?_
  rintro r w3 ⟨rfl, b3⟩
  have HB3 := Lib.hid (HB2.out.trans (b3.mono HB2.out.size))
  clear b3
  go_wp2_with fail
  go_ret
  exact ⟨rfl, HB3.out⟩
theorem to_some (w : World) (A : Option Addr) (ws : List (BitVec 64)) (c : Nat) (hr : Rd u64v w w.heap.size A ws) (hl : ws.length ≤ 8192) (b t e : Nat) (hbt : b ≤ t) (hte : t ≤ e) (hel : e ≤ ws.length) (l : List Nat) (ho : objF ws t (t + 1) b = some l) : Calls Try.prog 8 #[.slice A ws.length c, .int .i64 b, .int .i64 t, .int .i64 e] w fun r w' => ∃ s g v, r = .returned (.pointer (some ⟨s, 0, none⟩)) ∧ SpAt w' w.heap.size s g v ws b t e ∧ Below w.heap.size w w' := by
  have HMem := Lib.hid (mem15_c w A c ws hr hl)
  have HOf := Lib.hid (fun W B g v (h : MemAt W B g v ws) => sof_some W B g v ws b t e h hbt hte hel (by omega) l ho)
  obtain ⟨N, hN⟩ : ∃ N, N = ws.length := ⟨_, rfl⟩
  rw [← hN] at HMem ⊢
  clear hr hl hN ho hbt hte hel
  go_enter Try.func8, Try.ntmps8
  go_wp2_with fail
  refine Calls.mono HMem.out ?_
  rintro r w2 ⟨g, v, rfl, h2, b2⟩
  have HM2 := Lib.hid (HOf.out w2 _ g v h2)
  have HB2 := Lib.hid b2
  clear h2 b2
  go_wp2_with fail
  refine Calls.mono HM2.out ?_
  rintro r w3 ⟨s, rfl, h3, b3⟩
  have HB3 := Lib.hid (And.intro h3 (HB2.out.trans (b3.mono HB2.out.size)))
  clear b3 h3
  go_wp2_with fail
  go_ret
  exact ⟨s, g, v, rfl, HB3.out.1, HB3.out.2⟩
/-- What To makes of words. -/
def toP (ws : List (BitVec 64)) (b t e : Int) (w : World) (r : Ending) (w' : World) : Prop :=
  (r = .returned (.pointer none) ∧ Below w.heap.size w w') ∨ ∃ (B T E : Nat) (s g : Nat) (v : Value) (l : List Nat), b = (B : Int) ∧ t = (T : Int) ∧ e = (E : Int) ∧ B ≤ T ∧ T ≤ E ∧ E ≤ ws.length ∧ objF ws T (T + 1) B = some l ∧ r = .returned (.pointer (some ⟨s, 0, none⟩)) ∧ SpAt w' w.heap.size s g v ws B T E ∧ Below w.heap.size w w'
theorem to_c (w : World) (A : Option Addr) (ws : List (BitVec 64)) (c : Nat) (hr : Rd u64v w w.heap.size A ws) (hl : ws.length ≤ 8192) (b t e : Int) : Calls Try.prog 8 #[.slice A ws.length c, .int .i64 b, .int .i64 t, .int .i64 e] w (toP ws b t e w) := by
  by_cases ho : toN ws b t e
  · exact (to_out w A ws c hr hl b t e ho).mono fun r w' h => .inl h
  · unfold toN at ho
    obtain ⟨B, rfl⟩ : ∃ k : Nat, b = (k : Int) := ⟨b.toNat, by omega⟩
    obtain ⟨T, rfl⟩ : ∃ k : Nat, t = (k : Int) := ⟨t.toNat, by omega⟩
    obtain ⟨E, rfl⟩ : ∃ k : Nat, e = (k : Int) := ⟨e.toNat, by omega⟩
    cases h : objF ws T (T + 1) B with
    | none => exact (to_none w A ws c hr hl B T E (by omega) (by omega) (by omega) h).mono fun r w' h => .inl h
    | some l => exact (to_some w A ws c hr hl B T E (by omega) (by omega) (by omega) l h).mono fun r w' ⟨s, g, v, h1, h2, h3⟩ => .inr ⟨B, T, E, s, g, v, l, rfl, rfl, rfl, by omega, by omega, by omega, h, h1, h2, h3⟩
end Go.Proofs.Ytlibcpboooehlaa
/- loamlaw15.Ints of two rows that are alike. Conditions: lengths. -/
namespace Go.Proofs.Ytlibcpboooehlaa
set_option linter.unusedVariables false
set_option linter.unusedSimpArgs false
open Go.RowKit Go.Maps
set_option maxHeartbeats 1000000
set_option maxRecDepth 100000
theorem inz_r (Q : Exit → Act → World → Prop) (a0 : Act) (w : World) (a b : Addr) (N j c1 c2 : Nat) (z : Int) (h1 : a.block < w.heap.size) (h2 : b.block < w.heap.size) (k1 : w.cell? (a.add j) = some (.int .i64 z)) (k2 : w.cell? (b.add j) = some (.int .i64 z)) (p1 : (0 : Int) ≤ (j : Int)) (p2 : (j : Int) < (N : Int)) (hsz : a0.tmps.size = 26) (sl0 : a0.tmps.getD 0 undef = .slice (some a) N c1) (sl1 : a0.tmps.getD 1 undef = .slice (some b) N c2) (sl5 : a0.tmps.getD 5 undef = .int .i64 j)
    (fin : ∀ (vals : Nat → Value) (w1 : World), Below w.heap.size w w1 → (IsV (.bool false)) (vals 8) w1 → Q .normal (putD vals [17, 18, 19, 20, 21, 22, 23, 24, 25] 0 a0) w1) :
    (Code.region 6 (regIn Try.f38 6) true).wp Try.prog Q a0 w := by
  refine region_by (G := fun w w1 => Below w.heap.size w w1) [IsV (.slice (some a) N c1),
    IsV (.int .i64 j),
    IsV (.pointer (some (a.add j))),
    IsV (.int .i64 z),
    IsV (.slice (some b) N c2),
    IsV (.int .i64 j),
    IsV (.pointer (some (b.add j))),
    IsV (.int .i64 z),
    IsV (.bool false)]
    [17, 18, 19, 20, 21, 22, 23, 24, 25] (by kernel_rfl) (Gw.drew _) Gw.trans (by rw [hsz]; kernel_rfl) (by kernel_rfl) ?_ ?_ ?_
  · intro f hf
    simp only [List.mem_cons, List.not_mem_nil, or_false] at hf
    rcases hf with rfl | rfl | rfl | rfl | rfl | rfl | rfl | rfl | rfl <;> intro v a b h g <;> first | exact IsV.mono h
  · refine ⟨?_, ?_, ?_, ?_, ?_, ?_, ?_, ?_, ?_, trivial⟩
    · exact owes_mv 0 (by kernel_rfl) (by kernel_rfl) (by kernel_rfl) sl0 (fun _ => rfl)
    · exact owes_mv 5 (by kernel_rfl) (by kernel_rfl) (by kernel_rfl) sl5 (fun _ => rfl)
    · refine owes_v (Go.Op.indexAddr 23 (Go.Operand.tmp 17) (Go.Operand.tmp 18)) 0 [0, 1] (by kernel_rfl) (by kernel_rfl) (by kernel_rfl) rfl fun vals w1 ρ hG hF hρ hcst hfun => ?_
      have e17 : ρ (.tmp 17) = .slice (some a) N c1 := ((hρ 17).trans (slotJ [0, 1] (by rw [hsz]; decide) (by kernel_rfl))).trans (hF 0 (by decide))
      have e18 : ρ (.tmp 18) = .int .i64 j := ((hρ 18).trans (slotJ [0, 1] (by rw [hsz]; decide) (by kernel_rfl))).trans (hF 1 (by decide))
      clear hρ hF hcst hfun sl0 sl1 sl5 fin
      exact opv_val (by go_simp <;> rfl) ⟨gw_self _, rfl⟩
    · refine owes_v (Go.Op.load 3 (Go.Operand.tmp 19)) 3 [2] (by kernel_rfl) (by kernel_rfl) (by kernel_rfl) rfl fun vals w1 ρ hG hF hρ hcst hfun => ?_
      have e19 : ρ (.tmp 19) = .pointer (some (a.add j)) := ((hρ 19).trans (slotJ [2] (by rw [hsz]; decide) (by kernel_rfl))).trans (hF 2 (by decide))
      have k := (hG.cell (p := a.add j) (by rw [add_block]; exact h1)).trans k1
      clear hρ hF hcst hfun sl0 sl1 sl5 fin
      exact opv_val (by go_simp <;> rfl) ⟨gw_self _, rfl⟩
    · exact owes_mv 1 (by kernel_rfl) (by kernel_rfl) (by kernel_rfl) sl1 (fun _ => rfl)
    · exact owes_mv 5 (by kernel_rfl) (by kernel_rfl) (by kernel_rfl) sl5 (fun _ => rfl)
    · refine owes_v (Go.Op.indexAddr 23 (Go.Operand.tmp 21) (Go.Operand.tmp 22)) 0 [4, 5] (by kernel_rfl) (by kernel_rfl) (by kernel_rfl) rfl fun vals w1 ρ hG hF hρ hcst hfun => ?_
      have e21 : ρ (.tmp 21) = .slice (some b) N c2 := ((hρ 21).trans (slotJ [4, 5] (by rw [hsz]; decide) (by kernel_rfl))).trans (hF 4 (by decide))
      have e22 : ρ (.tmp 22) = .int .i64 j := ((hρ 22).trans (slotJ [4, 5] (by rw [hsz]; decide) (by kernel_rfl))).trans (hF 5 (by decide))
      clear hρ hF hcst hfun sl0 sl1 sl5 fin
      exact opv_val (by go_simp <;> rfl) ⟨gw_self _, rfl⟩
    · refine owes_v (Go.Op.load 3 (Go.Operand.tmp 23)) 3 [6] (by kernel_rfl) (by kernel_rfl) (by kernel_rfl) rfl fun vals w1 ρ hG hF hρ hcst hfun => ?_
      have e23 : ρ (.tmp 23) = .pointer (some (b.add j)) := ((hρ 23).trans (slotJ [6] (by rw [hsz]; decide) (by kernel_rfl))).trans (hF 6 (by decide))
      have k := (hG.cell (p := b.add j) (by rw [add_block]; exact h2)).trans k2
      clear hρ hF hcst hfun sl0 sl1 sl5 fin
      exact opv_val (by go_simp <;> rfl) ⟨gw_self _, rfl⟩
    · refine owes_v (Go.Op.binOp Go.BinOp.neq 3 (Go.Operand.tmp 20) (Go.Operand.tmp 24) 3) 4 [3, 7] (by kernel_rfl) (by kernel_rfl) (by kernel_rfl) rfl fun vals w1 ρ hG hF hρ hcst hfun => ?_
      have e20 : ρ (.tmp 20) = .int .i64 z := ((hρ 20).trans (slotJ [3, 7] (by rw [hsz]; decide) (by kernel_rfl))).trans (hF 3 (by decide))
      have e24 : ρ (.tmp 24) = .int .i64 z := ((hρ 24).trans (slotJ [3, 7] (by rw [hsz]; decide) (by kernel_rfl))).trans (hF 7 (by decide))
      clear hρ hF hcst hfun sl0 sl1 sl5 fin
      exact opv_val (by go_simp <;> rfl) ⟨gw_self _, rfl⟩
  · intro vals w1 hG hF
    exact fin vals w1 hG (hF 8 (by decide +kernel))
theorem ints_z (w : World) (A1 A2 : Option Addr) (c1 c2 N : Nat) (xs : List Int) (hN : N = xs.length) (hl : N ≤ 1000) (h1 : Rd zV w w.heap.size A1 xs) (h2 : Rd zV w w.heap.size A2 xs) : Calls Try.prog 12 #[.slice A1 N c1, .slice A2 N c2] w (RetP (.bool true) w) := by
  have HI : Hid (Calls Try.prog 38 #[.slice A1 N c1, .slice A2 N c2] w (RetP (.bool true) w)) := Lib.hid (by
    have HN := Lib.hid hN
    have HR := Lib.hid (And.intro h1 h2)
    have hN2 : (N : Int) ≤ 1000 := by omega
    clear h1 h2 hl hN
    go_enter Try.func38, Try.ntmps38
    go_wp2_with fail
    go_loopw [5] (fun i wr => ∃ j : Nat, j ≤ N ∧ i = .int .i64 j ∧ Hid (Below w.heap.size w wr)) (fun i _ => N - (Go.RowKit.intOf i).toNat)
    case atStart => exact ⟨0, Nat.zero_le _, rfl, Lib.hid (Below.refl _ _)⟩
    case round =>
      obtain ⟨j, hj, rfl, hB⟩ := hrel
      by_cases hlt : j < N
      · have p1 : (0 : Int) ≤ (j : Int) := by omega
        have p2 : (j : Int) < (N : Int) := by omega
        have hjl : j < xs.length := by rw [← HN.out]; exact hlt
        obtain ⟨q1, rfl, hq1, k1⟩ := (HR.out.1.below hB.out) j hjl
        obtain ⟨q2, rfl, hq2, k2⟩ := (HR.out.2.below hB.out) j hjl
        obtain ⟨z, hz⟩ : ∃ z, z = xs[j] := ⟨_, rfl⟩
        rw [← hz] at k1 k2
        unfold zV at k1 k2
        have hsz := hB.out.size
        have HReg := Lib.hid (fun Q a0 => inz_r Q a0 wr q1 q2 N j c1 c2 z (Nat.lt_of_lt_of_le hq1 hsz) (Nat.lt_of_lt_of_le hq2 hsz) k1 k2 p1 p2)
        clear hz hjl k1 k2
        go_wp2_with fail
        refine HReg.out _ _ rfl rfl rfl rfl ?_
        intro vals w2 hG h25
        unfold IsV at h25
        simp only [putD, Act.put, List.setIfInBounds_toArray, List.set_cons_zero, List.set_cons_succ, h25]
        have HB2 := Lib.hid (hB.out.trans (hG.mono hB.out.size))
        clear h25 hG
        go_wp2_with fail
        go_roundw
        case rel => exact ⟨j + 1, by omega, by go_num, HB2⟩
        case measure => simp [Go.RowKit.intOf]; omega
      · obtain rfl : j = N := by omega
        go_wp2_with fail
        go_ret
        exact ⟨rfl, hB.out⟩)
  clear h1 h2 hN hl
  go_enter Try.func12, Try.ntmps12
  go_wp2_with fail
  refine Calls.mono HI.out ?_
  rintro r w1 ⟨rfl, b1⟩
  have HB := Lib.hid b1
  clear b1 HI
  go_wp2_with fail
  go_ret
  exact ⟨rfl, HB.out⟩
end Go.Proofs.Ytlibcpboooehlaa
/- How an argument of type []uint64 is opened. No conditions. -/
namespace Go.Proofs.Ytlibcpboooehlaa
set_option linter.unusedVariables false
set_option linter.unusedSimpArgs false
open Go.ChangeShapes Go.WideShapes Go.ChangeAt Go.RowKit
theorem open_words {H : Type} {enc : TypeId × Value → H} {P : Program} {W : World} {base : Nat} {sp : Nat → Bool} {hd : Bool} {r : Reach} {b0 : Nat} {t e : TypeId} {v : Value} {d : DataW H} {p : List MemPlace}
    (ht : P.underlying t = some (.slice e)) (he : P.underlying e = some (.int .u64)) (hc : P.cellsOf e = 1)
    (hv : Value.okWide P W r b0 t v) (h : DataW.Trod enc P W base sp hd t v d p) :
    ∃ (A : Option Addr) (bs : List (BitVec 64)) (c : Nat), v = .slice A bs.length c ∧ bs.length ≤ c ∧ c ≤ maxLen ∧ Rd u64v W W.heap.size A bs := by
  obtain ⟨a0, len, cap, rfl⟩ := okWide_slice ht hv
  obtain ⟨fuel, hf⟩ := h
  rcases open_ints ht he hc hf with ⟨hcs, _⟩ | ⟨x, l, c, zs, hcs, _, hl, hm, hz, _, hcell, hwz⟩
  · simp [Value.cells] at hcs
    obtain ⟨rfl, rfl, rfl⟩ := hcs
    exact ⟨none, [], 0, rfl, Nat.le_refl _, by simp [maxLen], Rd.nil⟩
  · simp [Value.cells] at hcs
    obtain ⟨rfl, rfl, rfl⟩ := hcs
    have hlen : len ≤ zs.length := by rw [hz]; split <;> omega
    refine ⟨some x, (zs.take len).map (BitVec.ofInt 64), cap, by simp; omega, by simp; omega, hm, fun j hj => ?_⟩
    have hj' : j < len := by simp at hj; omega
    have hc1 := hcell j (by omega)
    have hb := cell_lt hc1
    rw [add_block] at hb
    refine ⟨x, rfl, hb, ?_⟩
    rw [hc1]
    have hw := hwz (zs.getD j 0) (by rw [List.getD_eq_getElem?_getD, List.getElem?_eq_getElem (by omega)]; exact List.getElem_mem _)
    rw [wfu64 hw]
    have e : zs.getD j 0 = zs[j]'(by omega) := by rw [List.getD_eq_getElem?_getD, List.getElem?_eq_getElem (by omega)]; rfl
    rw [e]
    simp [u64v]
end Go.Proofs.Ytlibcpboooehlaa
/- How arguments of types []bool and []int are opened. No conditions. -/
namespace Go.Proofs.Ytlibcpboooehlaa
set_option linter.unusedVariables false
set_option linter.unusedSimpArgs false
open Go.ChangeShapes Go.WideShapes Go.ChangeAt Go.RowKit
def boZ (b : Bool) : Value := .bool b
def inV (k : Int) : Value := .int .i64 k
theorem open_bools {H : Type} {enc : TypeId × Value → H} {P : Program} {W : World} {base : Nat} {hd : Bool} {r : Reach} {b0 : Nat} {t e : TypeId} {v : Value} {d : DataW H} {p : List MemPlace}
    (ht : P.underlying t = some (.slice e)) (he : P.underlying e = some .bool) (hc : P.cellsOf e = 1)
    (hv : Value.okWide P W r b0 t v) (h : DataW.Trod enc P W base (fun _ => true) hd t v d p) :
    ∃ (A : Option Addr) (bs : List Bool) (c : Nat), v = .slice A bs.length c ∧ bs.length ≤ c ∧ c ≤ maxLen ∧ (Rd boZ W W.heap.size A bs ∧ ∀ a, A = some a → a.block < W.heap.size) := by
  obtain ⟨a0, len, cap, rfl⟩ := okWide_slice ht hv
  obtain ⟨fuel, hf⟩ := h
  rcases Go.Deep.open_bools ht he hc hf with ⟨hcs, _⟩ | ⟨x, l, c, B, hcs, _, hl, hm, _, hcell⟩
  · simp [Value.cells] at hcs
    obtain ⟨rfl, rfl, rfl⟩ := hcs
    exact ⟨none, [], 0, rfl, Nat.le_refl _, by simp [maxLen], Rd.nil, fun a e => by cases e⟩
  · simp [Value.cells] at hcs
    obtain ⟨rfl, rfl, rfl⟩ := hcs
    have hx : x.block < W.heap.size := by
      have hx2 : Cell.okWide P W r b0 t (.slice (some x) len cap) := by unfold Value.okWide at hv; rw [ht] at hv; exact hv
      unfold Cell.okWide at hx2
      rw [ht] at hx2
      have hx3 : Cell.ok P W r b0 t (.slice (some x) len cap) := hx2
      unfold Cell.ok at hx3
      rw [ht] at hx3
      obtain ⟨_, _, _, _, row, cells, hs, _⟩ := hx3
      unfold World.shape? at hs
      by_cases hb : x.block < W.heap.size
      · exact hb
      · rw [Array.getElem?_eq_none (by omega)] at hs
        cases hs
    refine ⟨some x, (List.range len).map B, cap, by simp, by simp; omega, hm, fun j hj => ?_, fun a e => by cases e; exact hx⟩
    have hj' : j < len := by simp at hj; omega
    have hc1 := hcell j (by omega)
    have hb := cell_lt hc1
    rw [add_block] at hb
    exact ⟨x, rfl, hb, by rw [hc1]; simp [boZ]⟩
theorem open_intz {H : Type} {enc : TypeId × Value → H} {P : Program} {W : World} {base : Nat} {sp : Nat → Bool} {hd : Bool} {r : Reach} {b0 : Nat} {t e : TypeId} {v : Value} {d : DataW H} {p : List MemPlace}
    (ht : P.underlying t = some (.slice e)) (he : P.underlying e = some (.int .i64)) (hc : P.cellsOf e = 1)
    (hv : Value.okWide P W r b0 t v) (h : DataW.Trod enc P W base sp hd t v d p) :
    ∃ (A : Option Addr) (bs : List Int) (c : Nat), v = .slice A bs.length c ∧ bs.length ≤ c ∧ c ≤ maxLen ∧ (Rd inV W W.heap.size A bs ∧ ∀ x ∈ bs, (Lit.int .i64 x).wf = true) := by
  obtain ⟨a0, len, cap, rfl⟩ := okWide_slice ht hv
  obtain ⟨fuel, hf⟩ := h
  rcases open_ints ht he hc hf with ⟨hcs, _⟩ | ⟨x, l, c, zs, hcs, _, hl, hm, hz, _, hcell, hwz⟩
  · simp [Value.cells] at hcs
    obtain ⟨rfl, rfl, rfl⟩ := hcs
    exact ⟨none, [], 0, rfl, Nat.le_refl _, by simp [maxLen], Rd.nil, fun x hx => by cases hx⟩
  · simp [Value.cells] at hcs
    obtain ⟨rfl, rfl, rfl⟩ := hcs
    have hlen : len ≤ zs.length := by rw [hz]; split <;> omega
    refine ⟨some x, zs.take len, cap, by simp; omega, by simp; omega, hm, fun j hj => ?_, fun y hy => hwz y (List.mem_of_mem_take hy)⟩
    have hj' : j < len := by simp at hj; omega
    have hc1 := hcell j (by omega)
    have hb := cell_lt hc1
    rw [add_block] at hb
    refine ⟨x, rfl, hb, ?_⟩
    rw [hc1, List.getD_eq_getElem?_getD, List.getElem?_eq_getElem (by omega)]
    simp [inV]
end Go.Proofs.Ytlibcpboooehlaa
