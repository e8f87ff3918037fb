/- Texts joined: CyJ CyK RgA ObI CbA CbB CbC. -/
import Derived.Test.YtlibcpboooehlaaYa3
import Derived.Test.YtlibcpboooehlaaObD
import Derived.Test.YtlibcpboooehlaaSpD
import Derived.Test.YtlibcpboooehlaaStr
/- Live; known of layer 21. No conditions. -/
namespace Go.Proofs.Ytlibcpboooehlaa
set_option linter.unusedVariables false
set_option linter.unusedSimpArgs false
open Go.RowKit Go.Maps
set_option maxHeartbeats 4000000
set_option maxRecDepth 100000
/-- What a copy tells: the roots' places, the end, the words. -/
def tellC (x : Option (List Nat × Cy)) : Option (List Nat × Nat × List (BitVec 64)) := x.map fun r => (r.1, r.2.top, r.2.T)
theorem live_c (w : World) (B s g : Nat) (v : Value) (ws : List (BitVec 64)) (b t e : Nat) (p : SpAt w B s g v ws b t e) (hl : ws.length ≤ 8192) (l : List Nat) (ho : objF ws t (t + 1) b = some l) (hw : l.all (wellN ws l) = true) (A : Option Addr) (roots : List Int) (ca : Nat) (hr : Rd zV w w.heap.size A roots) (hrl : roots.length ≤ 100000) (hrw : ∀ r ∈ roots, kW r) (hra : roots.all (rootB l) = true) :
    Calls Try.prog 13 #[.pointer (some ⟨s, 0, none⟩), .slice A roots.length ca] w (RetP (match copyC ws 8192 (roots.map rootP) with
      | some (_, d) => .tuple #[.int .i64 d.top, .int .i64 0]
      | none => .tuple #[.int .i64 0, .int .i64 6]) w) := by
  have HC := Lib.hid (copy_c w B s g v ws b t e p hl l ho hw A roots ca hr hrl hrw hra 8192 (Nat.le_refl _))
  obtain ⟨n, hn⟩ : ∃ n, n = roots.length := ⟨_, rfl⟩
  rw [← hn] at HC ⊢
  obtain ⟨x, hx⟩ : ∃ x, x = copyC ws 8192 (roots.map rootP) := ⟨_, rfl⟩
  rw [← hx] at HC ⊢
  clear p hl ho hw hr hrl hrw hra hn hx
  cases x with
  | none =>
    have HC2 := Lib.hid (show Calls Try.prog 9 #[.pointer (some ⟨s, 0, none⟩), .slice A n ca, .int .i64 8192] w (RetP (.tuple #[.pointer none, .slice none 0 0, .int .i64 6]) w) from HC.out)
    go_enter Try.func13, Try.ntmps13
    go_wp2_with fail
    refine Calls.mono HC2.out ?_
    rintro r w2 ⟨rfl, b2⟩
    have HB2 := Lib.hid b2
    clear b2
    go_wp2_with fail
    go_ret2
    exact ⟨rfl, HB2.out⟩
  | some z =>
    obtain ⟨qs, d⟩ := z
    have HC2 := Lib.hid (show Calls Try.prog 9 #[.pointer (some ⟨s, 0, none⟩), .slice A n ca, .int .i64 8192] w (fun r w' => ∃ s' g' v' q, r = .returned (.tuple #[.pointer (some ⟨s', 0, none⟩), .slice (some ⟨q, 0, none⟩) n n, .int .i64 0]) ∧ SpAt w' w.heap.size s' g' v' d.T 0 d.top 8192 ∧ d.T.length = 8192 ∧ Ow zV 3 w' w.heap.size (.slice (some ⟨q, 0, none⟩) n n) (backZ qs) ∧ Below w.heap.size w w') from HC.out)
    go_enter Try.func13, Try.ntmps13
    go_wp2_with fail
    refine Calls.mono HC2.out ?_
    rintro r w2 ⟨s', g', v', q, rfl, h2, hl2, _, b2⟩
    have HB2 := Lib.hid b2
    have HU := Lib.hid (used_c w2 w.heap.size s' g' v' d.T 0 d.top 8192 h2 (by omega))
    have htop : (d.top : Int) ≤ 8192 := by have := h2.te; omega
    clear b2 h2 hl2
    go_wp2_with fail
    refine Calls.mono HU.out ?_
    rintro r w3 ⟨rfl, b3⟩
    have HB3 := Lib.hid (HB2.out.trans (b3.mono HB2.out.size))
    clear b3
    go_wp2_with fail
    go_ret2
    exact ⟨by simp, HB3.out⟩
def kS0 : List (BitVec 64) := List.replicate 20 0#64
def kS1 : List (BitVec 64) := allocW kS0 3 3 (packH 2 0 false 0)
def kS2 : List (BitVec 64) := allocW kS1 6 2 (packH 1 0 false 0)
def kS3 : List (BitVec 64) := kS2.set 7 (BitVec.ofNat 64 7)
theorem kS3_obj : objF kS3 8 9 3 = some [3, 6] := by decide +kernel
theorem kS3_well : [3, 6].all (wellN kS3 [3, 6]) = true := by decide +kernel
theorem kS3_len : kS3.length = 20 := by decide +kernel
theorem kS3_c1 : tellC (copyC kS3 10 [7, 0, 7]) = some ([1, 0, 1], 2, packH 1 0 false 0 :: 1#64 :: List.replicate 8 0#64) := by decide +kernel
theorem kS3_c2 : copyC kS3 1 [7] = none := by decide +kernel
theorem kS3_c3 : (tellC (copyC kS3 8192 [7])).map (fun r => r.2.1) = some 2 := by decide +kernel
end Go.Proofs.Ytlibcpboooehlaa
/- known of layer 21 returns true. No conditions. -/
namespace Go.Proofs.Ytlibcpboooehlaa
set_option linter.unusedVariables false
set_option linter.unusedSimpArgs false
open Go.RowKit Go.Maps
set_option maxHeartbeats 4000000
set_option maxRecDepth 100000
theorem kS_lens : kS0.length = 20 ∧ kS1.length = 20 ∧ kS2.length = 20 := by decide +kernel
theorem k21_a (w : World) (B s g : Nat) (v : Value) (h : SpAt w B s g v kS0 3 3 20) : Calls Try.prog 18 #[.pointer (some ⟨s, 0, none⟩), .agg #[.int .i64 2, .int .i64 0, .bool false, .int .i64 0]] w fun r w' => r = .returned (.tuple #[.int .i64 3, .int .i64 0]) ∧ SpAt w' B s g v kS1 3 6 20 ∧ Below B w w' :=
  alloc_ok w B s g v kS0 3 3 20 h (by rw [kS_lens.1]; decide) 2 0 0 3 (by decide) (by decide) (by decide) (by decide)
theorem k21_b (w : World) (B s g : Nat) (v : Value) (h : SpAt w B s g v kS1 3 6 20) : Calls Try.prog 18 #[.pointer (some ⟨s, 0, none⟩), .agg #[.int .i64 1, .int .i64 0, .bool false, .int .i64 0]] w fun r w' => r = .returned (.tuple #[.int .i64 6, .int .i64 0]) ∧ SpAt w' B s g v kS2 3 8 20 ∧ Below B w w' :=
  alloc_ok w B s g v kS1 3 6 20 h (by rw [kS_lens.2.1]; decide) 1 0 0 2 (by decide) (by decide) (by decide) (by decide)
theorem kS2_good : goodX (kS2.getD 6 0#64) (8 - 6) = true ∧ 0 < P0 (kS2.getD 6 0#64) := by decide +kernel
theorem k21_s (w : World) (B s g : Nat) (v : Value) (h : SpAt w B s g v kS2 3 8 20) : Calls Try.prog 19 #[.pointer (some ⟨s, 0, none⟩), .int .i64 6, .int .i64 0, .int .i64 6] w fun r w' => r = .returned (.int .i64 0) ∧ SpAt w' B s g v kS3 3 8 20 ∧ Below B w w' :=
  (setptr_to w B s g v kS2 3 8 20 h (by rw [kS_lens.2.2]; decide) 6 0 6 (by decide) (by decide) kS2_good.1 kS2_good.2 (by decide) (by decide)).mono fun r w' ⟨h1, h2, _, h4⟩ => ⟨h1, h2, h4⟩
theorem rd_zs {w : World} {k : Nat} {E : TypeId} {xs : List Int} (h : Bk w k E (xs.map zV).toArray) : Rd zV w w.heap.size (some ⟨k, 0, none⟩) xs := fun j hj => by
  refine ⟨⟨k, 0, none⟩, rfl, h.lt, ?_⟩
  have h2 := h.cell j
  rw [show (⟨k, 0, none⟩ : Addr).add (j : Nat) = ⟨k, j, none⟩ from by simp [Addr.add]; exact fun h => h.symm]
  rw [h2]
  simp [hj]
theorem k21_c1 : ∃ d, copyC kS3 10 [7, 0, 7] = some ([1, 0, 1], d) ∧ d.top = 2 ∧ d.T = packH 1 0 false 0 :: 1#64 :: List.replicate 8 0#64 := by
  have h := kS3_c1
  cases hc : copyC kS3 10 [7, 0, 7] with
  | none => rw [hc] at h; cases h
  | some z =>
    obtain ⟨qs, d⟩ := z
    rw [hc] at h
    unfold tellC at h
    simp only [Option.map_some, Option.some.injEq, Prod.mk.injEq] at h
    exact ⟨d, by rw [h.1], h.2.1, h.2.2⟩
theorem k21_c3 : ∃ qs d, copyC kS3 8192 [7] = some (qs, d) ∧ d.top = 2 := by
  have h := kS3_c3
  cases hc : copyC kS3 8192 [7] with
  | none => rw [hc] at h; cases h
  | some z =>
    obtain ⟨qs, d⟩ := z
    rw [hc] at h
    unfold tellC at h
    simp only [Option.map_some, Option.some.injEq] at h
    exact ⟨qs, d, rfl, h⟩
theorem k21_kw : ∀ r ∈ [(6 : Int), -1, 6], kW r := by
  intro r hr
  simp only [List.mem_cons, List.not_mem_nil, or_false] at hr
  rcases hr with rfl | rfl | rfl <;> (unfold kW; decide)
theorem k21_p (w : World) (B s g : Nat) (v : Value) (T : List (BitVec 64)) (hT : T = packH 1 0 false 0 :: 1#64 :: List.replicate 8 0#64) (h : SpAt w B s g v T 0 2 10) : Calls Try.prog 20 #[.pointer (some ⟨s, 0, none⟩), .int .i64 0, .int .i64 0] w (RetP (.tuple #[.int .i64 0, .int .i64 0]) w) := by
  subst hT
  have e1 : goodX ((packH 1 0 false 0 :: 1#64 :: List.replicate 8 0#64).getD 0 0#64) (2 - 0) = true := by decide +kernel
  have e2 : 0 < P0 ((packH 1 0 false 0 :: 1#64 :: List.replicate 8 0#64).getD 0 0#64) := by decide +kernel
  have e3 : ptV 0 2 ((packH 1 0 false 0 :: 1#64 :: List.replicate 8 0#64).getD (0 + 1 + 0) 0#64) = 0 ∧ ptE 0 2 ((packH 1 0 false 0 :: 1#64 :: List.replicate 8 0#64).getD (0 + 1 + 0) 0#64) = 0 := by decide +kernel
  have h1 := Ptr_c w B s g v _ 0 2 10 h (by simp) 0 0 (by decide) (by decide) e1 e2
  rw [e3.1, e3.2] at h1
  exact h1
theorem known21_c (w : World) : Calls Try.prog 7 #[] w (RetP (.bool true) w) := by
  obtain ⟨d1, c1, t1, u1⟩ := k21_c1
  obtain ⟨q3, d3, c3, t3⟩ := k21_c3
  have HN := Lib.hid (new_in w 20 (by decide))
  have HS := Lib.hid (fun W g v (h : MemAt W w.heap.size g v kS0) => snew_in W w.heap.size g v kS0 3 20 h (by decide) (by rw [kS_lens.1]; decide) (by rw [kS_lens.1]; decide))
  have HA := Lib.hid (fun W s g v (h : SpAt W w.heap.size s g v kS0 3 3 20) => k21_a W w.heap.size s g v h)
  have HB := Lib.hid (fun W s g v (h : SpAt W w.heap.size s g v kS1 3 6 20) => k21_b W w.heap.size s g v h)
  have HP := Lib.hid (fun W s g v (h : SpAt W w.heap.size s g v kS2 3 8 20) => k21_s W w.heap.size s g v h)
  have HC1 := Lib.hid (fun W s g v (h : SpAt W w.heap.size s g v kS3 3 8 20) A ca (hr : Rd zV W W.heap.size A [6, -1, 6]) => show Calls Try.prog 9 #[.pointer (some ⟨s, 0, none⟩), .slice A 3 ca, .int .i64 10] W _ from copy_c W w.heap.size s g v kS3 3 8 20 h (by rw [kS3_len]; decide) [3, 6] kS3_obj kS3_well A [6, -1, 6] ca hr (by decide) k21_kw (by decide) 10 (by decide))
  have HC2 := Lib.hid (fun W s g v (h : SpAt W w.heap.size s g v kS3 3 8 20) A ca (hr : Rd zV W W.heap.size A [6]) => show Calls Try.prog 9 #[.pointer (some ⟨s, 0, none⟩), .slice A 1 ca, .int .i64 1] W _ from copy_c W w.heap.size s g v kS3 3 8 20 h (by rw [kS3_len]; decide) [3, 6] kS3_obj kS3_well A [6] ca hr (by decide) (fun r hr => k21_kw r (by simp at hr; simp [hr])) (by decide) 1 (by decide))
  have HLv := Lib.hid (fun W s g v (h : SpAt W w.heap.size s g v kS3 3 8 20) A ca (hr : Rd zV W W.heap.size A [6]) => show Calls Try.prog 13 #[.pointer (some ⟨s, 0, none⟩), .slice A 1 ca] W _ from live_c W w.heap.size s g v kS3 3 8 20 h (by rw [kS3_len]; decide) [3, 6] kS3_obj kS3_well A [6] ca hr (by decide) (fun r hr => k21_kw r (by simp at hr; simp [hr])) (by decide))
  have f1 : copyC kS3 10 ([6, -1, 6].map rootP) = some ([1, 0, 1], d1) := c1
  have f2 : copyC kS3 1 ([6].map rootP) = none := kS3_c2
  have f3 : copyC kS3 8192 ([6].map rootP) = some (q3, d3) := c3
  simp only [f1] at HC1
  simp only [f2] at HC2
  simp only [f3, t3] at HLv
  have HT1 := Lib.hid (And.intro t1 u1)
  clear c1 c3 t1 u1 t3 f1 f2 f3
  go_enter Try.func7, Try.ntmps7
  go_wp2_with fail
  refine Calls.mono HN.out ?_
  rintro r w2 ⟨g, v, rfl, hm2, b2⟩
  have H2 := Lib.hid (And.intro hm2 b2)
  clear hm2 b2
  go_wp2_with fail
  refine Calls.mono (HS.out w2 g v H2.out.1) ?_
  rintro r w3 ⟨s, rfl, hp3, b3⟩
  have H3 := Lib.hid (And.intro hp3 (H2.out.2.trans (b3.mono H2.out.2.size)))
  have c0 := hp3.four.1
  clear hp3 b3
  go_wp2_with fail
  refine Calls.mono (HA.out w3 s g v H3.out.1) ?_
  rintro r w4 ⟨rfl, hp4, b4⟩
  have H4 := Lib.hid (And.intro hp4 (H3.out.2.trans b4))
  clear hp4 b4 c0
  go_wp2_with fail
  refine Calls.mono (HB.out w4 s g v H4.out.1) ?_
  rintro r w5 ⟨rfl, hp5, b5⟩
  have H5 := Lib.hid (And.intro hp5 (H4.out.2.trans b5))
  clear hp5 b5
  go_wp2_with fail
  refine Calls.mono (HP.out w5 s g v H5.out.1) ?_
  rintro r w6 ⟨rfl, hp6, b6⟩
  have H6 := Lib.hid (And.intro hp6 (H5.out.2.trans b6))
  clear hp6 b6
  go_wp2_with fail
  have hb7 := Gw.alloc w6 (.cells #[.int .i64 6, .int .i64 (-1), .int .i64 6] 3)
  have hr7 := rd_zs (xs := [6, -1, 6]) (Bk.new w6 3 #[.int .i64 6, .int .i64 (-1), .int .i64 6])
  have H7 := Lib.hid (And.intro (H6.out.1.below hb7) (H6.out.2.alloc H6.out.2.size (.cells #[.int .i64 6, .int .i64 (-1), .int .i64 6] 3)))
  refine Calls.mono (HC1.out _ s g v H7.out.1 _ _ hr7) ?_
  rintro r w8 ⟨s', g', v', q, rfl, hp8, hl8, ho8, b8⟩
  have c8 := hp8.four.1
  have e0 := ho8.cell (j := 0) (by decide)
  have e1 := ho8.cell (j := 1) (by decide)
  have e2 := ho8.cell (j := 2) (by decide)
  have hq8 := ho8.ge.2
  rw [HT1.out.1] at hp8
  have ct := hp8.four.2.2.1
  have H8 := Lib.hid (And.intro (H7.out.1.below b8) (And.intro hp8 (H7.out.2.trans (b8.mono H7.out.2.size))))
  have hs8 := hp8.blk.lt
  clear hb7 hr7 H7 b8 hl8 ho8 hp8
  go_wp2_with fail
  refine Calls.mono (k21_p w8 _ s' g' v' d1.T HT1.out.2 H8.out.2.1) ?_
  rintro r w9 ⟨rfl, b9⟩
  have H9 := Lib.hid (And.intro (H8.out.1.below b9) (And.intro (H8.out.2.1.below b9) (H8.out.2.2.trans (b9.mono H8.out.2.2.size))))
  have e0' := (b9.cell (p := ⟨q, 0, none⟩) hq8).trans e0
  have e1' := (b9.cell (p := ⟨q, 1, none⟩) hq8).trans e1
  have e2' := (b9.cell (p := ⟨q, 2, none⟩) hq8).trans e2
  have ct' := (b9.cell (p := ⟨s', 2, none⟩) hs8).trans ct
  have hq9 := Nat.lt_of_lt_of_le hq8 b9.size
  have hs9 := Nat.lt_of_lt_of_le hs8 b9.size
  clear e0 e1 e2 ct c8 b9 hq8 hs8
  go_wp2_with fail
  have hb10 := Gw.alloc w9 (.cells #[.int .i64 6] 3)
  have hr10 := rd_zs (xs := [6]) (Bk.new w9 3 #[.int .i64 6])
  have H10 := Lib.hid (And.intro (H9.out.1.below hb10) (And.intro (H9.out.2.1.below hb10) (H9.out.2.2.alloc H9.out.2.2.size (.cells #[.int .i64 6] 3))))
  refine Calls.mono (HLv.out _ s g v H10.out.1 _ _ hr10) ?_
  rintro r w11 ⟨rfl, b11⟩
  have b11' := hb10.trans (b11.mono hb10.size)
  have e0 := (b11'.cell (p := ⟨q, 0, none⟩) hq9).trans e0'
  have e1 := (b11'.cell (p := ⟨q, 1, none⟩) hq9).trans e1'
  have e2 := (b11'.cell (p := ⟨q, 2, none⟩) hq9).trans e2'
  have ct := (b11'.cell (p := ⟨s', 2, none⟩) hs9).trans ct'
  have hq11 := Nat.lt_of_lt_of_le hq9 b11'.size
  have hs11 := Nat.lt_of_lt_of_le hs9 b11'.size
  have H11 := Lib.hid (And.intro (H10.out.1.below b11) (H10.out.2.2.trans (b11.mono H10.out.2.2.size)))
  clear e0' e1' e2' ct' b11 b11' hb10 hr10 hq9 hs9
  go_wp2_with fail
  have hb12 := Gw.alloc w11 (.cells #[.int .i64 6] 3)
  have hr12 := rd_zs (xs := [6]) (Bk.new w11 3 #[.int .i64 6])
  have H12 := Lib.hid (And.intro (H11.out.1.below hb12) (H11.out.2.alloc H11.out.2.size (.cells #[.int .i64 6] 3)))
  refine Calls.mono (HC2.out _ s g v H12.out.1 _ _ hr12) ?_
  rintro r w13 ⟨rfl, b13⟩
  have b13' := hb12.trans (b13.mono hb12.size)
  have e0' := (b13'.cell (p := ⟨q, 0, none⟩) hq11).trans e0
  have e1' := (b13'.cell (p := ⟨q, 1, none⟩) hq11).trans e1
  have e2' := (b13'.cell (p := ⟨q, 2, none⟩) hq11).trans e2
  have ct' := (b13'.cell (p := ⟨s', 2, none⟩) hs11).trans ct
  have H13 := Lib.hid (H12.out.2.trans (b13.mono H12.out.2.size))
  have z0 : zV ((backZ [1, 0, 1])[0]'(by decide)) = .int .i64 0 := rfl
  have z1 : zV ((backZ [1, 0, 1])[1]'(by decide)) = .int .i64 (-1) := rfl
  have z2 : zV ((backZ [1, 0, 1])[2]'(by decide)) = .int .i64 0 := rfl
  rw [z0] at e0'
  rw [z1] at e1'
  rw [z2] at e2'
  clear e0 e1 e2 ct b13 b13' hb12 hr12 hq11 hs11 z0 z1 z2
  go_wp2_with fail
  go_ret
  exact ⟨rfl, H13.out⟩
end Go.Proofs.Ytlibcpboooehlaa
/- Rings of objects, in words, copied (pure). No conditions. -/
namespace Go.Proofs.Ytlibcpboooehlaa
set_option linter.unusedVariables false
set_option linter.unusedSimpArgs false
open Go.RowKit Go.Maps
def hd1 : BitVec 64 := packH 1 0 false 0
theorem hd1_ok : okU hd1 = true ∧ fM hd1 = false ∧ szX hd1 = 2 ∧ P0 hd1 = 1 ∧ B0 hd1 = 0 := by decide +kernel
theorem hd1_good {room : Nat} (h : 2 ≤ room) : goodX hd1 room = true := by
  obtain ⟨h1, h2, h3, _⟩ := hd1_ok
  unfold goodX
  rw [h1, h2, h3]
  simpa using h
def ringA : Nat → List (BitVec 64)
  | 0 => List.replicate 100 0#64
  | i + 1 => allocW (ringA i) (2 * i) 2 hd1
def ringS (m : Nat) : Nat → List (BitVec 64)
  | 0 => ringA m
  | i + 1 => (ringS m i).set (2 * i + 1 + 0) (BitVec.ofNat 64 (2 * ((i + 1) % m) + 1))
theorem ringA_len : ∀ i, (ringA i).length = 100
  | 0 => by unfold ringA; simp
  | i + 1 => by unfold ringA; rw [allocW_len]; exact ringA_len i
theorem ringS_len (m : Nat) : ∀ i, (ringS m i).length = 100
  | 0 => ringA_len m
  | i + 1 => by unfold ringS; rw [List.length_set]; exact ringS_len m i
theorem ringA_even : ∀ n, n ≤ 40 → ∀ j, j < n → (ringA n).getD (2 * j) 0#64 = hd1
  | 0, _, j, hj => absurd hj (by omega)
  | n + 1, hn, j, hj => by
    have ih := ringA_even n (by omega) j
    rw [List.getD_eq_getElem?_getD] at ih ⊢
    unfold ringA
    rw [allocW_getQ _ _ _ _ _ (by rw [ringA_len]; omega) (by decide)]
    by_cases e : 2 * n = 2 * j
    · rw [if_pos e]; rfl
    · rw [if_neg e, if_neg (by omega)]
      exact ih (by omega)
theorem ringS_even (m : Nat) : ∀ i, i ≤ 40 → ∀ j, (ringS m i).getD (2 * j) 0#64 = (ringA m).getD (2 * j) 0#64
  | 0, _, _ => rfl
  | i + 1, hi, j => by
    unfold ringS
    rw [getD_set (by rw [ringS_len]; omega), if_neg (by omega)]
    exact ringS_even m i (by omega) j
theorem ringS_odd (m : Nat) : ∀ i, i ≤ 40 → ∀ j, j < i → (ringS m i).getD (2 * j + 1) 0#64 = BitVec.ofNat 64 (2 * ((j + 1) % m) + 1)
  | 0, _, _, h => absurd h (by omega)
  | i + 1, hi, j, hj => by
    unfold ringS
    rw [getD_set (by rw [ringS_len]; omega)]
    by_cases e : i = j
    · subst e; rw [if_pos (by omega)]
    · rw [if_neg (by omega)]
      exact ringS_odd m i (by omega) j (by omega)
theorem ring_word {m r : Nat} (hm : m ≤ 40) (hr : r < m) : (BitVec.ofNat 64 (2 * r + 1)).toNat = 2 * r + 1 := ofNat_nat (by omega)
def places (m : Nat) : List Nat := (List.range m).map (2 * ·)
theorem ring_objs {m : Nat} (hm : m ≤ 40) : ∀ n a, a ≤ m → m - a < n → objF (ringS m m) (2 * m) n (2 * a) = some ((List.range' a (m - a)).map (2 * ·))
  | 0, _, _, h => absurd h (by omega)
  | n + 1, a, ha, hn => by
    show (if 2 * a < 2 * m then (if goodX ((ringS m m).getD (2 * a) 0#64) (2 * m - 2 * a) = true then (objF (ringS m m) (2 * m) n (2 * a + szX ((ringS m m).getD (2 * a) 0#64))).map (2 * a :: ·) else none) else some []) = _
    by_cases e : a < m
    · rw [if_pos (by omega), ringS_even m m hm, ringA_even m hm a e, if_pos (hd1_good (by omega)), hd1_ok.2.2.1, show 2 * a + 2 = 2 * (a + 1) from by omega, ring_objs hm n (a + 1) (by omega) (by omega)]
      rw [show m - a = (m - (a + 1)) + 1 from by omega, List.range'_succ]
      rfl
    · rw [if_neg (by omega), show m - a = 0 from by omega]
      rfl
theorem well_at {m : Nat} (hm : m < 41) : objF (ringS m m) (2 * m) (2 * m + 1) 0 = some (places m) ∧ (places m).all (wellN (ringS m m) (places m)) = true := by
  constructor
  · have h := ring_objs (m := m) (by omega) (2 * m + 1) 0 (by omega) (by omega)
    rw [Nat.sub_zero, ← List.range_eq_range'] at h
    exact h
  · rw [List.all_eq_true]
    intro x hx
    obtain ⟨i, hi, rfl⟩ := List.mem_map.1 hx
    have hi := List.mem_range.1 hi
    have e0 : (ringS m m).getD (2 * i) 0#64 = hd1 := by rw [ringS_even m m (by omega), ringA_even m (by omega) i hi]
    unfold wellN
    rw [Bool.and_eq_true]
    constructor
    · rw [List.all_eq_true]
      intro k hk
      rw [e0, hd1_ok.2.2.2.1] at hk
      have hk := List.mem_range.1 hk
      obtain rfl : k = 0 := by omega
      unfold ptrN
      have hr : (i + 1) % m < m := Nat.mod_lt _ (by omega)
      rw [show 2 * i + 1 + 0 = 2 * i + 1 from rfl, ringS_odd m m (by omega) i hi, ring_word (by omega) hr]
      exact decide_eq_true (.inr ⟨by omega, List.mem_map.2 ⟨_, List.mem_range.2 hr, by omega⟩⟩)
    · unfold padN
      rw [e0, hd1_ok.2.2.2.1, hd1_ok.2.2.2.2, hd1_ok.2.2.1, show 8 * (2 * i + 2) - (8 * (2 * i + 1 + 1) + 0) = 0 from by omega]
      unfold padB bytesM
      rfl
theorem set_at {m i : Nat} (hm : m < 41) (hi : i < m) : goodX ((ringS m i).getD (2 * i) 0#64) (2 * m - 2 * i) = true ∧ 0 < P0 ((ringS m i).getD (2 * i) 0#64) := by
  rw [ringS_even m i (by omega), ringA_even m (by omega) i hi]
  exact ⟨hd1_good (by omega), by rw [hd1_ok.2.2.2.1]; decide⟩
/-- How far node i is from node k, along the ring. -/
def farR (m k i : Nat) : Nat := (i + m - k) % m
/-- j objects behind the first one were scanned. -/
structure RingI (m k j : Nat) (c : Cy) : Prop where
  Fl : c.F.length = 100
  Tl : c.T.length = 2 * m
  top : c.top = 2 * (j + 1)
  even : ∀ i, i < m → c.F.getD (2 * i) 0#64 = if farR m k i ≤ j then goneW (2 * farR m k i) else hd1
  odd : ∀ i, i < m → c.F.getD (2 * i + 1) 0#64 = BitVec.ofNat 64 (2 * ((i + 1) % m) + 1)
  heads : ∀ i, i ≤ j → c.T.getD (2 * i) 0#64 = hd1
  past : ∀ i, i < j → c.T.getD (2 * i + 1) 0#64 = BitVec.ofNat 64 (2 * (i + 1) + 1)
  last : c.T.getD (2 * j + 1) 0#64 = BitVec.ofNat 64 (2 * ((k + j + 1) % m) + 1)
theorem far_lt {m k i : Nat} (hm : 0 < m) : farR m k i < m := Nat.mod_lt _ hm
theorem far_eq {m k i : Nat} (hk : k < m) (hi : i < m) : farR m k i = if k ≤ i then i - k else i + m - k := by
  unfold farR
  by_cases e : k ≤ i
  · rw [if_pos e, show i + m - k = (i - k) + m from by omega, Nat.add_mod_right, Nat.mod_eq_of_lt (by omega)]
  · rw [if_neg e, Nat.mod_eq_of_lt (by omega)]
theorem mod_eq {m x : Nat} (hm : 0 < m) (h : x < 2 * m) : x % m = if x < m then x else x - m := by
  by_cases e : x < m
  · rw [if_pos e, Nat.mod_eq_of_lt e]
  · rw [if_neg e, Nat.mod_eq_sub_mod (by omega), Nat.mod_eq_of_lt (by omega)]
theorem ring_take {m k j : Nat} {c : Cy} (hm : m ≤ 40) (hk : k < m) (h : RingI m k j c) (hj : j + 1 < m) :
    takeP c (2 * ((k + j + 1) % m) + 1) = some (2 * (j + 1) + 1, movC c (2 * ((k + j + 1) % m))) := by
  have hr : (k + j + 1) % m < m := Nat.mod_lt _ (by omega)
  have hf : farR m k ((k + j + 1) % m) = j + 1 := by
    rw [far_eq hk hr, mod_eq (by omega) (by omega)]
    by_cases e : k + j + 1 < m
    · rw [if_pos e, if_pos (by omega)]; omega
    · rw [if_neg e, if_neg (by omega)]; omega
  have he := h.even _ hr
  rw [hf, if_neg (by omega)] at he
  show (takeC c (2 * ((k + j + 1) % m))).map (fun r => (r.1 + 1, r.2)) = _
  unfold takeC
  rw [he, hd1_ok.2.1, hd1_ok.2.2.1, h.Tl, h.top]
  rw [if_neg (by simp), if_pos (by omega)]
  rfl
theorem ring_back {m k j : Nat} {c : Cy} (hm : m ≤ 40) (hk : k < m) (h : RingI m k j c) (hj : j + 1 = m) : takeP c (2 * ((k + j + 1) % m) + 1) = some (1, c) := by
  have e : (k + j + 1) % m = k := by rw [show k + j + 1 = k + m from by omega, Nat.add_mod_right, Nat.mod_eq_of_lt hk]
  have hf : farR m k k = 0 := by rw [far_eq hk hk, if_pos (Nat.le_refl _)]; omega
  have he := h.even k hk
  rw [hf, if_pos (by omega)] at he
  obtain ⟨_, g2, g3⟩ := gone_ok (u := 2 * 0) (by decide)
  rw [e]
  show (takeC c (2 * k)).map (fun r => (r.1 + 1, r.2)) = _
  unfold takeC
  rw [he, if_pos g2, g3]
  rfl
theorem far_inj {m k i j : Nat} (hk : k < m) (hi : i < m) (hj : j + 1 < m) (h : farR m k i = j + 1) : i = (k + j + 1) % m := by
  rw [far_eq hk hi] at h
  rw [mod_eq (by omega) (by omega)]
  by_cases e : k ≤ i
  · rw [if_pos e] at h
    rw [if_pos (by omega)]; omega
  · rw [if_neg e] at h
    rw [if_neg (by omega)]; omega
theorem far_of {m k j : Nat} (hk : k < m) (hj : j + 1 < m) : farR m k ((k + j + 1) % m) = j + 1 := by
  have hr : (k + j + 1) % m < m := Nat.mod_lt _ (by omega)
  rw [far_eq hk hr, mod_eq (by omega) (by omega)]
  by_cases e : k + j + 1 < m
  · rw [if_pos e, if_pos (by omega)]; omega
  · rw [if_neg e, if_neg (by omega)]; omega
theorem ring_step {m k j : Nat} {c : Cy} (hm : m ≤ 40) (hk : k < m) (h : RingI m k j c) (hj : j + 1 < m) :
    RingI m k (j + 1) (setC (movC c (2 * ((k + j + 1) % m))) (2 * j + 1 + 0) (2 * (j + 1) + 1)) := by
  obtain ⟨r, hr'⟩ : ∃ r, r = (k + j + 1) % m := ⟨_, rfl⟩
  have hr : r < m := by rw [hr']; exact Nat.mod_lt _ (by omega)
  have hf : farR m k r = j + 1 := by rw [hr']; exact far_of hk hj
  have hinj : ∀ i, i < m → farR m k i = j + 1 → i = r := fun i hi e => by rw [hr']; exact far_inj hk hi hj e
  have he := h.even r hr
  rw [hf, if_neg (by omega)] at he
  have ho := h.odd r hr
  have htop := h.top
  have hTl := h.Tl
  obtain ⟨ml1, ml2⟩ := movC_len c (2 * r)
  have hmg := fun i => mov_get c (2 * r) i 2 (by rw [he]; exact hd1_ok.2.2.1) (by decide) (by rw [htop, hTl]; omega)
  have hFs : (movC c (2 * r)).F = c.F.set (2 * r) (goneW c.top) := rfl
  rw [← hr']
  have hget : ∀ i, (setC (movC c (2 * r)) (2 * j + 1 + 0) (2 * (j + 1) + 1)).T.getD i 0#64 = if 2 * j + 1 = i then BitVec.ofNat 64 (2 * (j + 1) + 1) else (movC c (2 * r)).T.getD i 0#64 := fun i => by
    unfold setC
    rw [getD_set (by rw [ml2, hTl]; omega)]
  refine ⟨by show (movC c (2 * r)).F.length = _; rw [ml1]; exact h.Fl, by unfold setC; rw [List.length_set, ml2]; exact hTl, ?_, ?_, ?_, ?_, ?_, ?_⟩
  · show c.top + szX _ = _
    rw [he, hd1_ok.2.2.1, htop]
    omega
  · intro i hi
    show (movC c (2 * r)).F.getD (2 * i) 0#64 = _
    rw [hFs, getD_set (by rw [h.Fl]; omega), h.even i hi, htop]
    by_cases e : r = i
    · subst e
      rw [if_pos rfl, hf, if_pos (Nat.le_refl _)]
    · have hne : farR m k i ≠ j + 1 := fun h2 => e (hinj i hi h2).symm
      rw [if_neg (by omega)]
      by_cases e2 : farR m k i ≤ j
      · rw [if_pos e2, if_pos (by omega)]
      · rw [if_neg e2, if_neg (by omega)]
  · intro i hi
    show (movC c (2 * r)).F.getD (2 * i + 1) 0#64 = _
    rw [hFs, getD_set (by rw [h.Fl]; omega), if_neg (by omega)]
    exact h.odd i hi
  · intro i hi
    rw [hget, if_neg (by omega), hmg, htop]
    by_cases e : i = j + 1
    · subst e
      rw [if_pos (by omega), Nat.sub_self]
      exact he
    · rw [if_neg (by omega)]
      exact h.heads i (by omega)
  · intro i hi
    rw [hget]
    by_cases e : i = j
    · subst e; rw [if_pos rfl]
    · rw [if_neg (by omega), hmg, htop, if_neg (by omega)]
      exact h.past i (by omega)
  · rw [hget, if_neg (by omega), hmg, htop, if_pos (by omega), show 2 * (j + 1) + 1 - 2 * (j + 1) = 1 from by omega, ho, hr']
    congr 3
    rw [Nat.mod_add_mod, show k + j + 1 + 1 = k + (j + 1) + 1 from by omega]
theorem ring_go {m k : Nat} (hm : m ≤ 40) (hk : k < m) : ∀ (n j : Nat) (c : Cy) (f : Nat), n = m - 1 - j → j < m → RingI m k j c → m + 1 ≤ j + f →
    ∃ d, goC f (2 * j) c = some d ∧ d.top = 2 * m ∧ ∀ i, i < m → d.T.getD (2 * i) 0#64 = hd1 ∧ d.T.getD (2 * i + 1) 0#64 = BitVec.ofNat 64 (2 * ((i + 1) % m) + 1)
  | n, j, c, 0, _, hj, _, hf => absurd hf (by omega)
  | 0, j, c, f + 1, hn, hj, h, hf => by
    have hj1 : j + 1 = m := by omega
    have hr : (k + j + 1) % m < m := Nat.mod_lt _ (by omega)
    refine ⟨setC c (2 * j + 1 + 0) 1, ?_, ?_, ?_⟩
    · show (if 2 * j < c.top then (match scanC (2 * j) (P0 (c.T.getD (2 * j) 0#64)) 0 c with | none => none | some d => goC f (2 * j + szX (d.T.getD (2 * j) 0#64)) d) else some c) = _
      rw [if_pos (by rw [h.top]; omega), h.heads j (Nat.le_refl _), hd1_ok.2.2.2.1]
      have hs : scanC (2 * j) 1 0 c = some (setC c (2 * j + 1 + 0) 1) := by
        show (match takeP c (c.T.getD (2 * j + 1 + 0) 0#64).toNat with | none => none | some (p, d) => scanC (2 * j) 0 1 (setC d (2 * j + 1 + 0) p)) = _
        rw [show 2 * j + 1 + 0 = 2 * j + 1 from rfl, h.last, ring_word hm hr, ring_back hm hk h hj1]
        rfl
      rw [hs]
      show goC f (2 * j + szX ((setC c (2 * j + 1 + 0) 1).T.getD (2 * j) 0#64)) _ = _
      have hh : (setC c (2 * j + 1 + 0) 1).T.getD (2 * j) 0#64 = hd1 := by
        unfold setC
        rw [getD_set (by rw [h.Tl]; omega), if_neg (by omega)]
        exact h.heads j (Nat.le_refl _)
      rw [hh, hd1_ok.2.2.1]
      cases f with
      | zero => rfl
      | succ f =>
        show (if 2 * j + 2 < (setC c (2 * j + 1 + 0) 1).top then _ else some _) = _
        rw [if_neg (by show ¬ 2 * j + 2 < c.top; rw [h.top]; omega)]
    · show c.top = _
      rw [h.top]; omega
    · intro i hi
      have hg : ∀ x, (setC c (2 * j + 1 + 0) 1).T.getD x 0#64 = if 2 * j + 1 = x then BitVec.ofNat 64 1 else c.T.getD x 0#64 := fun x => by
        unfold setC
        rw [getD_set (by rw [h.Tl]; omega)]
      rw [hg, hg, if_neg (by omega)]
      refine ⟨h.heads i (by omega), ?_⟩
      by_cases e : i = j
      · subst e
        rw [if_pos rfl, hj1, Nat.mod_self]
      · rw [if_neg (by omega), h.past i (by omega), Nat.mod_eq_of_lt (by omega)]
  | n + 1, j, c, f + 1, hn, hj, h, hf => by
    have hj1 : j + 1 < m := by omega
    have hr : (k + j + 1) % m < m := Nat.mod_lt _ (by omega)
    have hst := ring_step hm hk h hj1
    obtain ⟨d, d1, d2, d3⟩ := ring_go hm hk n (j + 1) _ f (by omega) hj1 hst (by omega)
    refine ⟨d, ?_, d2, d3⟩
    show (if 2 * j < c.top then (match scanC (2 * j) (P0 (c.T.getD (2 * j) 0#64)) 0 c with | none => none | some d => goC f (2 * j + szX (d.T.getD (2 * j) 0#64)) d) else some c) = _
    rw [if_pos (by rw [h.top]; omega), h.heads j (Nat.le_refl _), hd1_ok.2.2.2.1]
    have hs : scanC (2 * j) 1 0 c = some (setC (movC c (2 * ((k + j + 1) % m))) (2 * j + 1 + 0) (2 * (j + 1) + 1)) := by
      show (match takeP c (c.T.getD (2 * j + 1 + 0) 0#64).toNat with | none => none | some (p, d) => scanC (2 * j) 0 1 (setC d (2 * j + 1 + 0) p)) = _
      rw [show 2 * j + 1 + 0 = 2 * j + 1 from rfl, h.last, ring_word hm hr, ring_take hm hk h hj1]
      rfl
    rw [hs]
    show goC f (2 * j + szX ((setC (movC c (2 * ((k + j + 1) % m))) (2 * j + 1 + 0) (2 * (j + 1) + 1)).T.getD (2 * j) 0#64)) _ = _
    rw [hst.heads j (by omega), hd1_ok.2.2.1, show 2 * j + 2 = 2 * (j + 1) from by omega]
    exact d1
theorem copy_at {m k : Nat} (hm : m < 41) (hk : k < m) : ∃ d, copyC (ringS m m) (2 * m) [2 * k + 1] = some ([1], d) ∧ d.top = 2 * m ∧ ∀ i, i < m → d.T.getD (2 * i) 0#64 = hd1 ∧ d.T.getD (2 * i + 1) 0#64 = BitVec.ofNat 64 (2 * ((i + 1) % m) + 1) := by
  obtain ⟨c0, hc0⟩ : ∃ c0 : Cy, c0 = ⟨ringS m m, List.replicate (2 * m) 0#64, 0⟩ := ⟨_, rfl⟩
  have hF : c0.F = ringS m m := by rw [hc0]
  have hT : c0.T.length = 2 * m := by rw [hc0]; simp
  have ht : c0.top = 0 := by rw [hc0]
  have ev : ∀ i, i < m → c0.F.getD (2 * i) 0#64 = hd1 := fun i hi => by rw [hF, ringS_even m m (by omega), ringA_even m (by omega) i hi]
  have od : ∀ i, i < m → c0.F.getD (2 * i + 1) 0#64 = BitVec.ofNat 64 (2 * ((i + 1) % m) + 1) := fun i hi => by rw [hF]; exact ringS_odd m m (by omega) i hi
  have htk : takeP c0 (2 * k + 1) = some (1, movC c0 (2 * k)) := by
    show (takeC c0 (2 * k)).map (fun r => (r.1 + 1, r.2)) = _
    unfold takeC
    rw [ev k hk, hd1_ok.2.1, hd1_ok.2.2.1, hT, ht, if_neg (by simp), if_pos (by omega)]
    rfl
  obtain ⟨ml1, ml2⟩ := movC_len c0 (2 * k)
  have hmg := fun i => mov_get c0 (2 * k) i 2 (by rw [ev k hk]; exact hd1_ok.2.2.1) (by decide) (by rw [ht, hT]; omega)
  have h0 : RingI m k 0 (movC c0 (2 * k)) := by
    refine ⟨by rw [ml1, hF]; exact ringS_len m m, by rw [ml2]; exact hT, ?_, ?_, ?_, ?_, ?_, ?_⟩
    · show c0.top + szX _ = _
      rw [ev k hk, hd1_ok.2.2.1, ht]
    · intro i hi
      show (c0.F.set (2 * k) (goneW c0.top)).getD (2 * i) 0#64 = _
      rw [getD_set (by rw [hF, ringS_len]; omega), ev i hi, ht]
      by_cases e : k = i
      · subst e
        have : farR m k k = 0 := by rw [far_eq hk hk, if_pos (Nat.le_refl _)]; omega
        rw [if_pos rfl, this, if_pos (Nat.le_refl _)]
      · have : farR m k i ≠ 0 := by
          rw [far_eq hk hi]
          by_cases e2 : k ≤ i
          · rw [if_pos e2]; omega
          · rw [if_neg e2]; omega
        rw [if_neg (by omega), if_neg (by omega)]
    · intro i hi
      show (c0.F.set (2 * k) (goneW c0.top)).getD (2 * i + 1) 0#64 = _
      rw [getD_set (by rw [hF, ringS_len]; omega), if_neg (by omega)]
      exact od i hi
    · intro i hi
      obtain rfl : i = 0 := by omega
      rw [hmg, ht, if_pos (by omega)]
      exact ev k hk
    · intro i hi; omega
    · rw [hmg, ht, if_pos (by omega)]
      exact od k hk
  obtain ⟨d, d1, d2, d3⟩ := ring_go (by omega) hk (m - 1 - 0) 0 _ (2 * m + 1) rfl (by omega) h0 (by omega)
  refine ⟨d, ?_, d2, d3⟩
  unfold copyC
  rw [← hc0]
  show (match (match takeP c0 (2 * k + 1) with | none => none | some (q, d) => match rootsC [] d with | none => none | some (qs, e) => some (q :: qs, e)) with | none => none | some (qs, c) => (goC (2 * m + 1) 0 c).map fun d => (qs, d)) = _
  rw [htk]
  show (goC (2 * m + 1) 0 (movC c0 (2 * k))).map (fun d => ([1], d)) = _
  have e : 2 * 0 = 0 := rfl
  rw [e] at d1
  rw [d1]
  rfl
theorem get_ptr {m i : Nat} (hm : m < 41) (hi : i < m) : ptV 0 (2 * m) (BitVec.ofNat 64 (2 * ((i + 1) % m) + 1)) = ((2 * ((i + 1) % m) : Nat) : Int) ∧ ptE 0 (2 * m) (BitVec.ofNat 64 (2 * ((i + 1) % m) + 1)) = 0 := by
  have hr : (i + 1) % m < m := Nat.mod_lt _ (by omega)
  have hw := ring_word (m := m) (by omega) hr
  have hp : pokB 0 (2 * m) (BitVec.ofNat 64 (2 * ((i + 1) % m) + 1)) = true := by
    unfold pokB
    rw [hw]
    exact decide_eq_true (.inr ⟨by omega, by omega⟩)
  obtain ⟨h1, h2⟩ := pt_yes hp
  rw [h1, h2, hw]
  exact ⟨by omega, rfl⟩
end Go.Proofs.Ytlibcpboooehlaa
/- Two objects side by side, bytes written into both: what the words say (pure). Conditions: lengths. -/
namespace Go.Proofs.Ytlibcpboooehlaa
set_option linter.unusedVariables false
set_option linter.unusedSimpArgs false
open Go.RowKit
theorem hd_facts (P n room : Nat) (hP : P ≤ 64) (hn : n ≤ 1024) (hr : 1 + P + (n + 7) / 8 ≤ room) :
    goodX (packH P n false 0) room = true ∧ P0 (packH P n false 0) = P ∧ B0 (packH P n false 0) = n ∧ szX (packH P n false 0) = 1 + P + (n + 7) / 8 := by
  have hR : rightH (P : Int) (n : Int) false 0 = true := by
    unfold rightH
    rw [if_neg (by decide)]
    exact decide_eq_true ⟨rfl, by omega, by omega, by omega, by omega⟩
  obtain ⟨h1, h2, h3, h4⟩ := un_pack _ _ _ _ hR
  have hs : szX (packH P n false 0) = 1 + P + (n + 7) / 8 := by
    unfold szX
    rw [h1, h2, h3, h4]
    unfold sizeH
    rw [if_pos ⟨hR, rfl⟩]
    omega
  refine ⟨?_, ?_, ?_, hs⟩
  · unfold goodX
    rw [ok_pack _ _ _ _ hR, h3, hs]
    simp [hr]
  · unfold P0; rw [h1]; rfl
  · unfold B0; rw [h2]; rfl
theorem sizeH_two (P n : Nat) (hP : P ≤ 64) (hn : n ≤ 1024) : rightH (P : Int) (n : Int) false 0 = true ∧ sizeH (P : Int) (n : Int) false 0 = ((1 + P + (n + 7) / 8 : Nat) : Int) := by
  have hR : rightH (P : Int) (n : Int) false 0 = true := by
    unfold rightH
    rw [if_neg (by decide)]
    exact decide_eq_true ⟨rfl, by omega, by omega, by omega, by omega⟩
  refine ⟨hR, ?_⟩
  unfold sizeH
  rw [if_pos ⟨hR, rfl⟩]
  omega
theorem putK_far (ws : List (BitVec 64)) (a : Nat) (bs : List (BitVec 8)) (q : Nat) : ∀ k, (8 * q + 8 ≤ a ∨ a + k ≤ 8 * q) → (putK ws a bs k).getD q 0#64 = ws.getD q 0#64
  | 0, _ => rfl
  | k + 1, h => by
    show (setB _ _ _).getD q 0#64 = _
    rw [setB_far _ _ _ _ (by omega), putK_far ws a bs q k (by omega)]
theorem allocW_get (ws : List (BitVec 64)) (t m q : Nat) (x : BitVec 64) (hm : 1 ≤ m) (hl : t + m ≤ ws.length) : (allocW ws t m x).getD q 0#64 = if q = t then x else if t < q ∧ q < t + m then 0#64 else ws.getD q 0#64 := by
  unfold allocW
  rw [List.getD_eq_getElem?_getD, zeroW_get _ _ _ _ (by rw [List.length_set]; omega)]
  by_cases c : t + 1 ≤ q ∧ q < t + 1 + (m - 1)
  · rw [if_pos c, if_neg (by omega), if_pos (by omega)]; rfl
  · rw [if_neg c, List.getElem?_set]
    by_cases e : t = q
    · subst e
      rw [if_pos rfl, if_pos (by omega), if_pos rfl]; rfl
    · rw [if_neg e, if_neg (fun h => e h.symm), if_neg (by omega), ← List.getD_eq_getElem?_getD]
theorem byteAt_zero {ws : List (BitVec 64)} {i : Nat} (h : ws.getD (i / 8) 0#64 = 0#64) : byteAt ws i = 0#8 := by
  unfold byteAt
  rw [h]
  simp
/-- The words of two objects. -/
def twoW (P n k : Nat) : List (BitVec 64) := allocW (allocW (List.replicate 200 0#64) 0 (1 + P + (n + 7) / 8) (packH P n false 0)) (1 + P + (n + 7) / 8) (1 + 0 + (k + 7) / 8) (packH (0 : Nat) k false 0)
theorem twoW_len (P n k : Nat) : (twoW P n k).length = 200 := by unfold twoW; rw [allocW_len, allocW_len, List.length_replicate]
theorem rep_get (q : Nat) : (List.replicate 200 0#64).getD q 0#64 = 0#64 := by
  rw [List.getD_eq_getElem?_getD, List.getElem?_replicate]
  split <;> rfl
theorem twoW_get (P n k q : Nat) (hP : P ≤ 7) (hn : n ≤ 63) (hk : k ≤ 63) : (twoW P n k).getD q 0#64 = if q = 1 + P + (n + 7) / 8 then packH (0 : Nat) k false 0 else if q = 0 then packH P n false 0 else 0#64 := by
  unfold twoW
  rw [allocW_get _ _ _ _ _ (by omega) (by rw [allocW_len, List.length_replicate]; omega)]
  by_cases e : q = 1 + P + (n + 7) / 8
  · rw [if_pos e, if_pos e]
  · rw [if_neg e, if_neg e]
    by_cases c : 1 + P + (n + 7) / 8 < q ∧ q < 1 + P + (n + 7) / 8 + (1 + 0 + (k + 7) / 8)
    · rw [if_pos c, if_neg (by omega)]
    · rw [if_neg c, allocW_get _ _ _ _ _ (by omega) (by rw [List.length_replicate]; omega), rep_get]
      by_cases z : q = 0
      · rw [if_pos z, if_pos z]
      · rw [if_neg z, if_neg z]
        split <;> rfl
section
variable (P n k : Nat) (x y : List (BitVec 8))
def apA : List (BitVec 64) := putK (twoW P n k) (8 * (1 + P + (n + 7) / 8 + 1 + 0) + 0) y y.length
def apB : List (BitVec 64) := putK (apA P n k y) (8 * (0 + 1 + P) + (n - x.length)) x x.length
theorem apA_len : (apA P n k y).length = 200 := by unfold apA; rw [putK_len, twoW_len]
theorem apB_len : (apB P n k x y).length = 200 := by unfold apB; rw [putK_len, apA_len]
variable (hP : P ≤ 7) (hn : n ≤ 63) (hk : k ≤ 63) (hx : x.length ≤ n) (hy : y.length ≤ k)
include hP hn hk
theorem twoW_h : (twoW P n k).getD 0 0#64 = packH P n false 0 ∧ (twoW P n k).getD (1 + P + (n + 7) / 8) 0#64 = packH (0 : Nat) k false 0 := by
  constructor
  · rw [twoW_get P n k 0 hP hn hk, if_neg (by omega), if_pos rfl]
  · rw [twoW_get P n k _ hP hn hk, if_pos rfl]
theorem apA_h : (apA P n k y).getD 0 0#64 = packH P n false 0 ∧ (apA P n k y).getD (1 + P + (n + 7) / 8) 0#64 = packH (0 : Nat) k false 0 := by
  obtain ⟨h1, h2⟩ := twoW_h P n k hP hn hk
  unfold apA
  rw [putK_far _ _ _ _ _ (by omega), putK_far _ _ _ _ _ (by omega)]
  exact ⟨h1, h2⟩
include hx
theorem apB_h : (apB P n k x y).getD 0 0#64 = packH P n false 0 ∧ (apB P n k x y).getD (1 + P + (n + 7) / 8) 0#64 = packH (0 : Nat) k false 0 := by
  obtain ⟨h1, h2⟩ := apA_h P n k y hP hn hk
  unfold apB
  rw [putK_far _ _ _ _ _ (by omega), putK_far _ _ _ _ _ (by omega)]
  exact ⟨h1, h2⟩
include hy
theorem apB_ptr (q : Nat) (hq : q < P) : (apB P n k x y).getD (0 + 1 + q) 0#64 = 0#64 := by
  unfold apB apA
  rw [putK_far _ _ _ _ _ (by omega), putK_far _ _ _ _ _ (by omega), twoW_get P n k _ hP hn hk, if_neg (by omega), if_neg (by omega)]
theorem apB_byte (i : Nat) (h1 : i / 8 ≠ 0) (h2 : i / 8 ≠ 1 + P + (n + 7) / 8) : byteAt (apB P n k x y) i = if 8 * (0 + 1 + P) + (n - x.length) ≤ i ∧ i < 8 * (0 + 1 + P) + (n - x.length) + x.length then x.getD (i - (8 * (0 + 1 + P) + (n - x.length))) 0#8 else if 8 * (1 + P + (n + 7) / 8 + 1 + 0) + 0 ≤ i ∧ i < 8 * (1 + P + (n + 7) / 8 + 1 + 0) + 0 + y.length then y.getD (i - (8 * (1 + P + (n + 7) / 8 + 1 + 0) + 0)) 0#8 else 0#8 := by
  unfold apB
  rw [byteAt_putK _ _ _ _ _ (by rw [apA_len]; omega)]
  unfold apA
  rw [byteAt_putK _ _ _ _ _ (by rw [twoW_len]; omega)]
  rw [byteAt_zero (by rw [twoW_get P n k _ hP hn hk, if_neg h2, if_neg h1])]
theorem apB_x : bytesM (apB P n k x y) (8 * (0 + 1 + P) + (n - x.length)) x.length = x := by
  apply List.ext_getElem
  · simp [bytesM]
  · intro j h1 h2
    have e : (bytesM (apB P n k x y) (8 * (0 + 1 + P) + (n - x.length)) x.length)[j] = byteAt (apB P n k x y) (8 * (0 + 1 + P) + (n - x.length) + j) := by simp [bytesM]
    rw [e, apB_byte P n k x y hP hn hk hx hy _ (by omega) (by omega), if_pos (by omega), show 8 * (0 + 1 + P) + (n - x.length) + j - (8 * (0 + 1 + P) + (n - x.length)) = j from by omega]
    simp [List.getD, h2]
theorem apB_y : bytesM (apB P n k x y) (8 * (1 + P + (n + 7) / 8 + 1 + 0) + 0) y.length = y := by
  apply List.ext_getElem
  · simp [bytesM]
  · intro j h1 h2
    have e : (bytesM (apB P n k x y) (8 * (1 + P + (n + 7) / 8 + 1 + 0) + 0) y.length)[j] = byteAt (apB P n k x y) (8 * (1 + P + (n + 7) / 8 + 1 + 0) + 0 + j) := by simp [bytesM]
    rw [e, apB_byte P n k x y hP hn hk hx hy _ (by omega) (by omega), if_neg (by omega), if_pos (by omega), show 8 * (1 + P + (n + 7) / 8 + 1 + 0) + 0 + j - (8 * (1 + P + (n + 7) / 8 + 1 + 0) + 0) = j from by omega]
    simp [List.getD, h2]
theorem apB_well : wellE (apB P n k x y) 0 (1 + P + (n + 7) / 8 + (1 + 0 + (k + 7) / 8)) = 0 := by
  obtain ⟨h1, h2⟩ := apB_h P n k x y hP hn hk hx
  obtain ⟨T, hT⟩ : ∃ T, T = 1 + P + (n + 7) / 8 + (1 + 0 + (k + 7) / 8) := ⟨_, rfl⟩
  obtain ⟨U, hU⟩ : ∃ U, U = T - 2 := ⟨_, rfl⟩
  obtain ⟨a1, a2, a3, a4⟩ := hd_facts P n (T - 0) (by omega) (by omega) (by omega)
  obtain ⟨b1, b2, b3, b4⟩ := hd_facts 0 k (T - (1 + P + (n + 7) / 8)) (by omega) (by omega) (by omega)
  have ho : objF (apB P n k x y) T (T + 1) 0 = some [0, 1 + P + (n + 7) / 8] := by
    rw [show T + 1 = U + 1 + 1 + 1 from by omega]
    unfold objF
    rw [if_pos (by omega), h1, if_pos a1, a4]
    unfold objF
    rw [show 0 + (1 + P + (n + 7) / 8) = 1 + P + (n + 7) / 8 from by omega, if_pos (by omega), h2, if_pos b1, b4]
    unfold objF
    rw [if_neg (by omega)]
    rfl
  rw [← hT, well_some ho]
  refine if_pos ?_
  simp only [List.all_cons, List.all_nil, Bool.and_true, Bool.and_eq_true]
  constructor
  · unfold wellN
    rw [Bool.and_eq_true]
    constructor
    · rw [h1, a2, List.all_eq_true]
      intro q hq
      have hq := List.mem_range.1 hq
      unfold ptrN
      rw [apB_ptr P n k x y hP hn hk hx hy q hq]
      exact decide_eq_true (.inl rfl)
    · unfold padN padB
      rw [h1, a2, a3, a4, List.all_eq_true]
      intro z hz
      unfold bytesM at hz
      obtain ⟨i, hi, rfl⟩ := List.mem_map.1 hz
      have hi := List.mem_range.1 hi
      rw [apB_byte P n k x y hP hn hk hx hy _ (by omega) (by omega), if_neg (by omega), if_neg (by omega)]
      rfl
  · unfold wellN
    rw [Bool.and_eq_true]
    constructor
    · rw [h2, b2]; rfl
    · unfold padN padB
      rw [h2, b2, b3, b4, List.all_eq_true]
      intro z hz
      unfold bytesM at hz
      obtain ⟨i, hi, rfl⟩ := List.mem_map.1 hz
      have hi := List.mem_range.1 hi
      rw [apB_byte P n k x y hP hn hk hx hy _ (by omega) (by omega), if_neg (by omega), if_neg (by omega)]
      rfl
end
end Go.Proofs.Ytlibcpboooehlaa
/- Objects of bytes, one behind the other (pure). Conditions: how many, how long. -/
namespace Go.Proofs.Ytlibcpboooehlaa
set_option linter.unusedVariables false
set_option linter.unusedSimpArgs false
open Go.RowKit Go.Maps
def szB (bs : List (BitVec 8)) : Nat := 1 + 0 + (bs.length + 7) / 8
def hdB (bs : List (BitVec 8)) : BitVec 64 := packH ((0 : Nat) : Int) (bs.length : Int) false 0
def putO8 (ws : List (BitVec 64)) (t : Nat) (bs : List (BitVec 8)) : List (BitVec 64) := putK (allocW ws t (szB bs) (hdB bs)) (8 * (t + 1 + 0) + 0) bs bs.length
section
variable (l : List (List (BitVec 8)))
def atB (k : Nat) : List (BitVec 8) := l.getD k []
def cbP : Nat → Nat
  | 0 => 0
  | k + 1 => cbP k + szB (atB l k)
def cbW : Nat → List (BitVec 64)
  | 0 => List.replicate 600 0#64
  | k + 1 => putO8 (cbW k) (cbP l k) (atB l k)
def FewB : Prop := ∀ k, (atB l k).length ≤ 300
theorem cbW_len : ∀ k, (cbW l k).length = 600
  | 0 => by unfold cbW; rw [List.length_replicate]
  | k + 1 => by unfold cbW putO8; rw [putK_len, allocW_len]; exact cbW_len k
variable {l}
theorem szB_le (hf : FewB l) (k : Nat) : 1 ≤ szB (atB l k) ∧ szB (atB l k) ≤ 39 := by
  have := hf k
  unfold szB
  omega
theorem cbP_le (hf : FewB l) : ∀ k, cbP l k ≤ 39 * k
  | 0 => by unfold cbP; omega
  | k + 1 => by have := cbP_le hf k; have := (szB_le hf k).2; unfold cbP; omega
theorem cbP_mono (hf : FewB l) : ∀ k i, i ≤ k → cbP l i ≤ cbP l k
  | 0, i, h => by rw [Nat.le_zero.1 h]; exact Nat.le_refl _
  | k + 1, i, h => by
    by_cases e : i = k + 1
    · rw [e]; exact Nat.le_refl _
    · have := cbP_mono hf k i (by omega)
      show _ ≤ cbP l k + szB (atB l k)
      omega
theorem cbP_lt (hf : FewB l) {i j : Nat} (h : i < j) : cbP l i + szB (atB l i) ≤ cbP l j := cbP_mono hf j (i + 1) h
theorem hdB_facts (hf : FewB l) (k room : Nat) (h : szB (atB l k) ≤ room) : goodX (hdB (atB l k)) room = true ∧ P0 (hdB (atB l k)) = 0 ∧ B0 (hdB (atB l k)) = (atB l k).length ∧ szX (hdB (atB l k)) = szB (atB l k) :=
  hd_facts 0 (atB l k).length room (by decide) (by have := hf k; omega) h
/-- One more object: what is below stays. -/
theorem put_below (hf : FewB l) {k q : Nat} (hk : k < 10) (hq : q < cbP l k) : (cbW l (k + 1)).getD q 0#64 = (cbW l k).getD q 0#64 := by
  have h1 := cbP_le hf k
  have h2 := szB_le hf k
  show (putO8 (cbW l k) (cbP l k) (atB l k)).getD q 0#64 = _
  unfold putO8
  rw [putK_far _ _ _ _ _ (by omega), allocW_get _ _ _ _ _ h2.1 (by rw [cbW_len]; omega), if_neg (by omega), if_neg (by omega)]
theorem put_head (hf : FewB l) {k : Nat} (hk : k < 10) : (cbW l (k + 1)).getD (cbP l k) 0#64 = hdB (atB l k) := by
  have h1 := cbP_le hf k
  have h2 := szB_le hf k
  show (putO8 (cbW l k) (cbP l k) (atB l k)).getD _ 0#64 = _
  unfold putO8
  rw [putK_far _ _ _ _ _ (by omega), allocW_get _ _ _ _ _ h2.1 (by rw [cbW_len]; omega), if_pos rfl]
theorem put_byte (hf : FewB l) {k j : Nat} (hk : k < 10) (h1 : 8 * (cbP l k + 1) ≤ j) (h2 : j < 8 * (cbP l k + szB (atB l k))) : byteAt (cbW l (k + 1)) j = (atB l k).getD (j - 8 * (cbP l k + 1)) 0#8 := by
  have q1 := cbP_le hf k
  have q2 := szB_le hf k
  have q3 : szB (atB l k) = 1 + 0 + ((atB l k).length + 7) / 8 := rfl
  show byteAt (putO8 (cbW l k) (cbP l k) (atB l k)) j = _
  unfold putO8
  rw [byteAt_putK _ _ _ _ _ (by rw [allocW_len, cbW_len]; omega)]
  by_cases e : 8 * (cbP l k + 1 + 0) + 0 ≤ j ∧ j < 8 * (cbP l k + 1 + 0) + 0 + (atB l k).length
  · rw [if_pos e]; rfl
  · rw [if_neg e, byteAt_zero (by rw [allocW_get _ _ _ _ _ q2.1 (by rw [cbW_len]; omega), if_neg (by omega), if_pos (by omega)])]
    rw [List.getD_eq_getElem?_getD, List.getElem?_eq_none (by omega)]
    rfl
theorem cb_head (hf : FewB l) : ∀ k, k ≤ 10 → ∀ i, i < k → (cbW l k).getD (cbP l i) 0#64 = hdB (atB l i)
  | 0, _, i, h => absurd h (by omega)
  | k + 1, hk, i, hi => by
    by_cases e : i = k
    · subst e; exact put_head hf (by omega)
    · have := cbP_lt hf (show i < k by omega)
      have := (szB_le hf i).1
      rw [put_below hf (by omega) (by omega)]
      exact cb_head hf k (by omega) i (by omega)
theorem cb_byte (hf : FewB l) : ∀ k, k ≤ 10 → ∀ i, i < k → ∀ j, 8 * (cbP l i + 1) ≤ j → j < 8 * (cbP l i + szB (atB l i)) → byteAt (cbW l k) j = (atB l i).getD (j - 8 * (cbP l i + 1)) 0#8
  | 0, _, i, h => absurd h (by omega)
  | k + 1, hk, i, hi => by
    intro j h1 h2
    by_cases e : i = k
    · subst e; exact put_byte hf (by omega) h1 h2
    · have := cbP_lt hf (show i < k by omega)
      have e2 : byteAt (cbW l (k + 1)) j = byteAt (cbW l k) j := by
        unfold byteAt
        rw [put_below hf (by omega) (by omega)]
      rw [e2]
      exact cb_byte hf k (by omega) i (by omega) j h1 h2
def plB (l : List (List (BitVec 8))) (k : Nat) : List Nat := (List.range k).map (cbP l)
theorem cb_objs (hf : FewB l) {k : Nat} (hk : k ≤ 10) : ∀ n i, i ≤ k → k - i < n → objF (cbW l k) (cbP l k) n (cbP l i) = some ((List.range' i (k - i)).map (cbP l))
  | 0, _, _, h => absurd h (by omega)
  | n + 1, i, hi, hn => by
    show (if cbP l i < cbP l k then (if goodX ((cbW l k).getD (cbP l i) 0#64) (cbP l k - cbP l i) = true then (objF (cbW l k) (cbP l k) n (cbP l i + szX ((cbW l k).getD (cbP l i) 0#64))).map (cbP l i :: ·) else none) else some []) = _
    by_cases e : i < k
    · have h1 := cbP_lt hf e
      have h2 := szB_le hf i
      obtain ⟨g1, _, _, g4⟩ := hdB_facts hf i (cbP l k - cbP l i) (by omega)
      rw [if_pos (by omega), cb_head hf k hk i e, if_pos g1, g4]
      have ih := cb_objs hf hk n (i + 1) (by omega) (by omega)
      rw [show cbP l i + szB (atB l i) = cbP l (i + 1) from rfl, ih, show k - i = (k - (i + 1)) + 1 from by omega, List.range'_succ]
      rfl
    · rw [show i = k from by omega, if_neg (by omega), Nat.sub_self]
      rfl
theorem cb_well (hf : FewB l) {k : Nat} (hk : k ≤ 10) : objF (cbW l k) (cbP l k) (cbP l k + 1) 0 = some (plB l k) ∧ (plB l k).all (wellN (cbW l k) (plB l k)) = true := by
  constructor
  · have hle : k ≤ cbP l k := by
      have : ∀ k, k ≤ cbP l k := fun k => by
        induction k with
        | zero => exact Nat.zero_le _
        | succ k ih => have := (szB_le hf k).1; show k + 1 ≤ cbP l k + _; omega
      exact this k
    have h := cb_objs hf hk (cbP l k + 1) 0 (by omega) (by omega)
    rw [Nat.sub_zero, ← List.range_eq_range'] at h
    exact h
  · rw [List.all_eq_true]
    intro x hx
    obtain ⟨i, hi, rfl⟩ := List.mem_map.1 hx
    have hi := List.mem_range.1 hi
    have h1 := cbP_lt hf hi
    obtain ⟨_, g2, g3, g4⟩ := hdB_facts hf i _ (Nat.le_refl _)
    unfold wellN
    rw [Bool.and_eq_true]
    constructor
    · rw [cb_head hf k hk i hi, g2]; rfl
    · unfold padN padB
      rw [cb_head hf k hk i hi, g2, g3, g4, List.all_eq_true]
      intro z hz
      unfold bytesM at hz
      obtain ⟨j, hj, rfl⟩ := List.mem_map.1 hz
      have hj := List.mem_range.1 hj
      rw [cb_byte hf k hk i hi _ (by omega) (by omega), List.getD_eq_getElem?_getD, List.getElem?_eq_none (by omega)]
      rfl
end
end Go.Proofs.Ytlibcpboooehlaa
/- Objects without pointers, copied (pure). Conditions: room. -/
namespace Go.Proofs.Ytlibcpboooehlaa
set_option linter.unusedVariables false
set_option linter.unusedSimpArgs false
open Go.RowKit Go.Maps
def sumZ (ws : List (BitVec 64)) : List Nat → Nat
  | [] => 0
  | a :: r => szX (ws.getD a 0#64) + sumZ ws r
/-- Where objects come to stand. -/
def posL (ws : List (BitVec 64)) : List Nat → Nat → List Nat
  | [], _ => []
  | a :: r, p => p :: posL ws r (p + szX (ws.getD a 0#64))
section
variable {ws T : List (BitVec 64)} {l : List Nat} {b t : Nat}
theorem posL_len : ∀ (r : List Nat) (p : Nat), (posL ws r p).length = r.length
  | [], _ => rfl
  | _ :: r, p => by unfold posL; rw [List.length_cons, List.length_cons, posL_len r]
theorem chain_at : ∀ (r : List Nat) (p q j : Nat) (hj : j < r.length), Chain ws T r p q → ∃ x, (posL ws r p)[j]? = some x ∧ p ≤ x ∧ x + szX (ws.getD r[j] 0#64) ≤ q ∧ ∀ i, i < szX (ws.getD r[j] 0#64) → T.getD (x + i) 0#64 = ws.getD (r[j] + i) 0#64
  | [], _, _, j, hj, _ => absurd hj (by simp)
  | a :: r, p, q, 0, _, h => ⟨p, rfl, Nat.le_refl _, by have := h.2.le; simpa using this, h.1⟩
  | a :: r, p, q, j + 1, hj, h => by
    obtain ⟨x, h1, h2, h3, h4⟩ := chain_at r _ q j (by simpa using hj) h.2
    exact ⟨x, by unfold posL; simpa using h1, by omega, by simpa using h3, by simpa using h4⟩
/-- Objects that were not taken yet are taken, one by one. -/
theorem roots_fresh (H : Heap ws l b t) : ∀ (r : List Nat) (c : Cy), InvC l ws b t c → (∀ a ∈ r, a ∈ l ∧ fM (c.F.getD a 0#64) = false) → r.Nodup → c.top + sumZ ws r ≤ c.T.length →
    ∃ d, rootsC (r.map (· + 1)) c = some ((posL ws r c.top).map (· + 1), d) ∧ InvC l ws b t d ∧ d.top = c.top + sumZ ws r ∧ d.T.length = c.T.length ∧ (∀ i, i < c.top → d.T.getD i 0#64 = c.T.getD i 0#64) ∧ Chain ws d.T r c.top d.top
  | [], c, h, _, _, _ => ⟨c, rfl, h, rfl, rfl, fun _ _ => rfl, rfl⟩
  | a :: r, c, h, hr, hn, hs => by
    obtain ⟨ha, hm⟩ := hr a (.head _)
    have hx := h.2.2.2.2 a ha hm
    have hsum : sumZ ws (a :: r) = szX (ws.getD a 0#64) + sumZ ws r := rfl
    have htk : takeC c a = some (c.top, movC c a) := by
      unfold takeC
      rw [hm, if_neg (by simp), if_pos (by rw [hx]; omega)]
    obtain ⟨i1, i2⟩ := takeC_inv H h ha htk
    obtain ⟨_, _, _, k4, k5, k6, k7⟩ := takeC_ok h.1 h.2.1 ha htk
    rcases i2 with ⟨_, e⟩ | ⟨_, _, _, e4, e5⟩
    · rw [hm] at e; cases e
    · have hFs : (movC c a).F = c.F.set a (goneW c.top) := rfl
      have hal : a < c.F.length := by have := H.tl; have := (H.good a ha).2.1; rw [h.2.2.1]; omega
      obtain ⟨d, d1, d2, d3, d4, d5, d6⟩ := roots_fresh H r (movC c a) i1 (fun x hx2 => by
        obtain ⟨j1, j2⟩ := hr x (.tail _ hx2)
        refine ⟨j1, ?_⟩
        rw [hFs, getD_set hal, if_neg (fun e => (List.nodup_cons.1 hn).1 (by rw [e]; exact hx2))]
        exact j2) (List.nodup_cons.1 hn).2 (by rw [e4, k5]; omega)
      refine ⟨d, ?_, d2, by rw [d3, e4]; omega, d4.trans k5, fun i hi => by rw [d5 i (by omega)]; exact k7 i hi, ?_, ?_⟩
      · show (match takeP c (a + 1) with | none => none | some (q, d) => match rootsC (r.map (· + 1)) d with | none => none | some (qs, e) => some (q :: qs, e)) = _
        have : takeP c (a + 1) = some (c.top + 1, movC c a) := by
          show (takeC c a).map _ = _
          rw [htk]; rfl
        rw [this]
        simp only
        rw [d1]
        simp only
        rw [show (posL ws (a :: r) c.top) = c.top :: posL ws r (c.top + szX (ws.getD a 0#64)) from rfl, e4]
        rfl
      · intro i hi
        rw [d5 _ (by omega)]
        exact e5 i hi
      · rw [← e4]; exact d6
/-- Objects without pointers are scanned: nothing turns. -/
theorem go_plain (H : Heap ws l b t) : ∀ (r : List Nat) (p f : Nat) (c : Cy), (∀ a ∈ r, a ∈ l ∧ P0 (ws.getD a 0#64) = 0) → Chain ws c.T r p c.top → goC f p c = some c
  | _, _, 0, _, _, _ => rfl
  | [], p, f + 1, c, _, h => by
    have h : p = c.top := h
    show (if p < c.top then _ else some c) = _
    rw [if_neg (by omega)]
  | a :: r, p, f + 1, c, hr, h => by
    obtain ⟨ha, hp⟩ := hr a (.head _)
    have hn := size_pos (H.good a ha).2.2
    have hle := h.2.le
    have hx := h.1 0 (by omega)
    rw [Nat.add_zero, Nat.add_zero] at hx
    show (if p < c.top then (match scanC p (P0 (c.T.getD p 0#64)) 0 c with | none => none | some d => goC f (p + szX (d.T.getD p 0#64)) d) else some c) = _
    rw [if_pos (by omega), hx, hp]
    show goC f (p + szX (c.T.getD p 0#64)) c = _
    rw [hx]
    exact go_plain H r _ f c (fun x hx => hr x (.tail _ hx)) h.2
theorem copy_plain (H : Heap ws l b t) (m : Nat) (hm : m ≤ 8192) (r : List Nat) (hr : ∀ a ∈ r, a ∈ l ∧ P0 (ws.getD a 0#64) = 0) (hn : r.Nodup) (hs : sumZ ws r ≤ m) :
    ∃ d, copyC ws m (r.map (· + 1)) = some ((posL ws r 0).map (· + 1), d) ∧ d.top = sumZ ws r ∧ d.T.length = m ∧ Chain ws d.T r 0 d.top := by
  obtain ⟨d, d1, d2, d3, d4, d5, d6⟩ := roots_fresh H r ⟨ws, List.replicate m 0#64, 0⟩ (inv_start H hm) (fun a ha => ⟨(hr a ha).1, (goodX_out (H.good a (hr a ha).1).2.2).2.1⟩) hn (by simp; omega)
  refine ⟨d, ?_, by rw [d3]; simp, by rw [d4]; simp, d6⟩
  unfold copyC
  rw [d1]
  simp only
  rw [go_plain H r 0 (m + 1) d hr d6]
  rfl
theorem bytes_same {A B : List (BitVec 64)} {x y n : Nat} (h : ∀ i, i < (n + 7) / 8 → A.getD (x + i) 0#64 = B.getD (y + i) 0#64) : bytesM A (8 * x) n = bytesM B (8 * y) n := by
  unfold bytesM
  refine List.map_congr_left fun i hi => ?_
  have hi := List.mem_range.1 hi
  unfold byteAt
  rw [show (8 * x + i) / 8 = x + i / 8 from by omega, show (8 * y + i) / 8 = y + i / 8 from by omega, h (i / 8) (by omega), show (8 * x + i) % 8 = (8 * y + i) % 8 from by omega]
end
end Go.Proofs.Ytlibcpboooehlaa
/- CopyBytes: its regions that draw their order; what a copy's bytes are. Conditions: lengths. -/
namespace Go.Proofs.Ytlibcpboooehlaa
set_option linter.unusedVariables false
set_option linter.unusedSimpArgs false
open Go.RowKit Go.Maps
set_option maxHeartbeats 1000000
set_option maxRecDepth 100000
/-- A slice that reads as bytes, and no error. -/
def TuV (bs : List (BitVec 8)) (v : Value) (w : World) : Prop := ∃ A c, v = .tuple #[.slice A bs.length c, .int .i64 0] ∧ bs.length ≤ c ∧ Rd b8 w w.heap.size A bs
theorem TuV.mono {bs : List (BitVec 8)} {v : Value} {a b : World} (h : TuV bs v a) (g : Gw a b) : TuV bs v b := by
  obtain ⟨A, c, e, hc, h⟩ := h
  exact ⟨A, c, e, hc, (h.below g).more g.size⟩
theorem of_mke {P : Program} {f : FuncId} {args : Array Value} {E : TypeId} {bs : List (BitVec 8)} {w : World} (h : Calls P f args w (MkEP b8 E bs 0 w)) : Calls P f args w fun e w2 => ∃ u, e = .returned u ∧ Below w.heap.size w w2 ∧ TuV bs u w2 :=
  Calls.mono h fun e w' ⟨A, c, e1, h1, h2, h3⟩ => ⟨_, e1, h3, A, c, rfl, h1, h2.rd⟩
theorem cb23 (Q : Exit → Act → World → Prop) (a0 : Act) (w : World) (A Ai : Option Addr) (n i ni J N1 q s' x c ci : Nat) (ad : Addr) (bs : List (BitVec 8)) (hA : A = some ad) (q0 : (0 : Int) ≤ (i : Int)) (q1 : (i : Int) < (n : Int)) (q2 : (n : Int) - 1 = (N1 : Int)) (q3 : (N1 : Int) - (i : Int) = (J : Int)) (q4 : (n : Int) ≤ 10) (q5 : (0 : Int) ≤ (J : Int)) (q6 : (J : Int) < (n : Int)) (q7 : (0 : Int) ≤ (N1 : Int)) (hq : q < w.heap.size) (had : ad.block < w.heap.size) (cx : w.cell? ⟨q, J, none⟩ = some (.int .i64 x)) (ca : w.cell? (ad.add i) = some (.slice Ai ni ci)) (hp : Hid (∀ W, Below w.heap.size w W → Calls Try.prog 22 #[.pointer (some ⟨s', 0, none⟩), .int .i64 x, .int .i64 0, .int .i64 ni] W (MkEP b8 5 bs 0 W))) (hsz : a0.tmps.size = 122) (sl0 : a0.tmps.getD 0 undef = .slice A n c) (sl11 : a0.tmps.getD 11 undef = .pointer (some ⟨s', 0, none⟩)) (sl12 : a0.tmps.getD 12 undef = .slice (some ⟨q, 0, none⟩) n n) (sl14 : a0.tmps.getD 14 undef = .int .i64 i)
    (fin : ∀ (vals : Nat → Value) (w1 : World), Below w.heap.size w w1 → (SlV b8 bs) (vals 18) w1 → (IsV (.int .i64 0)) (vals 19) w1 → Q .normal (putD vals [93, 94, 95, 96, 97, 98, 99, 100, 101, 102, 103, 104, 105, 106, 107, 92, 108, 109, 15, 16] 0 a0) w1) :
    (Code.region 23 (regIn Try.f6 23) true).wp Try.prog Q a0 w := by
  refine region_by (G := fun w w1 => Below w.heap.size w w1) [IsV (.pointer (some ⟨s', 0, none⟩)),
    IsV (.slice (some ⟨q, 0, none⟩) n n),
    IsV (.slice A n c),
    IsV (.int .i64 n),
    IsV (.int .i64 N1),
    IsV (.int .i64 i),
    IsV (.int .i64 J),
    IsV (.pointer (some ⟨q, J, none⟩)),
    IsV (.int .i64 x),
    IsV (.slice A n c),
    IsV (.int .i64 i),
    IsV (.pointer (some (ad.add i))),
    IsV (.slice Ai ni ci),
    IsV (.int .i64 ni),
    TuV bs,
    TuV bs,
    SlV b8 bs,
    IsV (.int .i64 0),
    SlV b8 bs,
    IsV (.int .i64 0)]
    [93, 94, 95, 96, 97, 98, 99, 100, 101, 102, 103, 104, 105, 106, 107, 92, 108, 109, 15, 16] (by kernel_rfl) (Gw.drew _) Gw.trans (by rw [hsz]; kernel_rfl) (by kernel_rfl) ?_ ?_ ?_
  · intro f hf
    simp only [List.mem_cons, List.not_mem_nil, or_false] at hf
    rcases hf with rfl | rfl | rfl | rfl | rfl | rfl | rfl | rfl | rfl | rfl | rfl | rfl | rfl | rfl | rfl | rfl | rfl | rfl | rfl | rfl <;> intro v a b h g <;> first | exact IsV.mono h | exact TuV.mono h g | exact SlV.mono h g
  · refine ⟨?_, ?_, ?_, ?_, ?_, ?_, ?_, ?_, ?_, ?_, ?_, ?_, ?_, ?_, ?_, ?_, ?_, ?_, ?_, ?_, trivial⟩
    · exact owes_mv 11 (by kernel_rfl) (by kernel_rfl) (by kernel_rfl) sl11 (fun _ => rfl)
    · exact owes_mv 12 (by kernel_rfl) (by kernel_rfl) (by kernel_rfl) sl12 (fun _ => rfl)
    · exact owes_mv 0 (by kernel_rfl) (by kernel_rfl) (by kernel_rfl) sl0 (fun _ => rfl)
    · refine owes_v (Go.Op.call { callee := Go.Callee.builtin Go.Builtin.len, args := #[Go.Operand.tmp 95], argTypes := #[58] }) 3 [2] (by kernel_rfl) (by kernel_rfl) (by kernel_rfl) rfl fun vals w1 ρ hG hF hρ hcst hfun => ?_
      have e95 : ρ (.tmp 95) = .slice A n c := ((hρ 95).trans (slotJ [2] (by rw [hsz]; decide) (by kernel_rfl))).trans (hF 2 (by decide))
      clear hρ hF hcst hfun sl0 sl11 sl12 sl14 fin
      exact opv_val (by go_simp <;> rfl) ⟨gw_self _, rfl⟩
    · refine owes_v (Go.Op.binOp Go.BinOp.sub 3 (Go.Operand.tmp 96) (Go.Operand.const (Go.Value.int Go.IntKind.i64 1)) 3) 3 [3] (by kernel_rfl) (by kernel_rfl) (by kernel_rfl) rfl fun vals w1 ρ hG hF hρ hcst hfun => ?_
      have e96 : ρ (.tmp 96) = .int .i64 n := ((hρ 96).trans (slotJ [3] (by rw [hsz]; decide) (by kernel_rfl))).trans (hF 3 (by decide))
      have kw0 : IntKind.i64.wrap ((N1 : Int)) = (N1 : Int) := wrapIn (by omega) (by omega)
      clear hρ hF hfun sl0 sl11 sl12 sl14 fin
      exact opv_val (by go_simp <;> rfl) ⟨gw_self _, rfl⟩
    · exact owes_mv 14 (by kernel_rfl) (by kernel_rfl) (by kernel_rfl) sl14 (fun _ => rfl)
    · refine owes_v (Go.Op.binOp Go.BinOp.sub 3 (Go.Operand.tmp 97) (Go.Operand.tmp 98) 3) 3 [4, 5] (by kernel_rfl) (by kernel_rfl) (by kernel_rfl) rfl fun vals w1 ρ hG hF hρ hcst hfun => ?_
      have e97 : ρ (.tmp 97) = .int .i64 N1 := ((hρ 97).trans (slotJ [4, 5] (by rw [hsz]; decide) (by kernel_rfl))).trans (hF 4 (by decide))
      have e98 : ρ (.tmp 98) = .int .i64 i := ((hρ 98).trans (slotJ [4, 5] (by rw [hsz]; decide) (by kernel_rfl))).trans (hF 5 (by decide))
      have kw0 : IntKind.i64.wrap ((J : Int)) = (J : Int) := wrapIn (by omega) (by omega)
      clear hρ hF hcst hfun sl0 sl11 sl12 sl14 fin
      exact opv_val (by go_simp <;> rfl) ⟨gw_self _, rfl⟩
    · refine owes_v (Go.Op.indexAddr 23 (Go.Operand.tmp 94) (Go.Operand.tmp 99)) 0 [1, 6] (by kernel_rfl) (by kernel_rfl) (by kernel_rfl) rfl fun vals w1 ρ hG hF hρ hcst hfun => ?_
      have e94 : ρ (.tmp 94) = .slice (some ⟨q, 0, none⟩) n n := ((hρ 94).trans (slotJ [1, 6] (by rw [hsz]; decide) (by kernel_rfl))).trans (hF 1 (by decide))
      have e99 : ρ (.tmp 99) = .int .i64 J := ((hρ 99).trans (slotJ [1, 6] (by rw [hsz]; decide) (by kernel_rfl))).trans (hF 6 (by decide))
      clear hρ hF hcst hfun sl0 sl11 sl12 sl14 fin
      exact opv_val (by go_simp <;> rfl) ⟨gw_self _, rfl⟩
    · refine owes_v (Go.Op.load 3 (Go.Operand.tmp 100)) 3 [7] (by kernel_rfl) (by kernel_rfl) (by kernel_rfl) rfl fun vals w1 ρ hG hF hρ hcst hfun => ?_
      have e100 : ρ (.tmp 100) = .pointer (some ⟨q, J, none⟩) := ((hρ 100).trans (slotJ [7] (by rw [hsz]; decide) (by kernel_rfl))).trans (hF 7 (by decide))
      have k := (hG.cell (p := ⟨q, J, none⟩) hq).trans cx
      clear hρ hF hcst hfun sl0 sl11 sl12 sl14 fin
      exact opv_val (by go_simp <;> rfl) ⟨gw_self _, rfl⟩
    · exact owes_mv 0 (by kernel_rfl) (by kernel_rfl) (by kernel_rfl) sl0 (fun _ => rfl)
    · exact owes_mv 14 (by kernel_rfl) (by kernel_rfl) (by kernel_rfl) sl14 (fun _ => rfl)
    · refine owes_v (Go.Op.indexAddr 58 (Go.Operand.tmp 102) (Go.Operand.tmp 103)) 0 [9, 10] (by kernel_rfl) (by kernel_rfl) (by kernel_rfl) rfl fun vals w1 ρ hG hF hρ hcst hfun => ?_
      have e102 : ρ (.tmp 102) = .slice A n c := ((hρ 102).trans (slotJ [9, 10] (by rw [hsz]; decide) (by kernel_rfl))).trans (hF 9 (by decide))
      have e103 : ρ (.tmp 103) = .int .i64 i := ((hρ 103).trans (slotJ [9, 10] (by rw [hsz]; decide) (by kernel_rfl))).trans (hF 10 (by decide))
      subst hA
      clear hρ hF hcst hfun sl0 sl11 sl12 sl14 fin
      exact opv_val (by go_simp <;> rfl) ⟨gw_self _, rfl⟩
    · refine owes_v (Go.Op.load 59 (Go.Operand.tmp 104)) 59 [11] (by kernel_rfl) (by kernel_rfl) (by kernel_rfl) rfl fun vals w1 ρ hG hF hρ hcst hfun => ?_
      have e104 : ρ (.tmp 104) = .pointer (some (ad.add i)) := ((hρ 104).trans (slotJ [11] (by rw [hsz]; decide) (by kernel_rfl))).trans (hF 11 (by decide))
      have k := (hG.cell (p := ad.add i) (by rw [add_block]; exact had)).trans ca
      clear hρ hF hcst hfun sl0 sl11 sl12 sl14 fin
      exact opv_val (by go_simp <;> rfl) ⟨gw_self _, rfl⟩
    · refine owes_v (Go.Op.call { callee := Go.Callee.builtin Go.Builtin.len, args := #[Go.Operand.tmp 105], argTypes := #[59] }) 3 [12] (by kernel_rfl) (by kernel_rfl) (by kernel_rfl) rfl fun vals w1 ρ hG hF hρ hcst hfun => ?_
      have e105 : ρ (.tmp 105) = .slice Ai ni ci := ((hρ 105).trans (slotJ [12] (by rw [hsz]; decide) (by kernel_rfl))).trans (hF 12 (by decide))
      clear hρ hF hcst hfun sl0 sl11 sl12 sl14 fin
      exact opv_val (by go_simp <;> rfl) ⟨gw_self _, rfl⟩
    · refine owes_v (Go.Op.call { callee := Go.Callee.value (Go.Operand.func 22), args := #[Go.Operand.tmp 93, Go.Operand.tmp 101, Go.Operand.const (Go.Value.int Go.IntKind.i64 0), Go.Operand.tmp 106], argTypes := #[25, 3, 3, 3] }) 61 [0, 8, 13] (by kernel_rfl) (by kernel_rfl) (by kernel_rfl) rfl fun vals w1 ρ hG hF hρ hcst hfun => ?_
      have e93 : ρ (.tmp 93) = .pointer (some ⟨s', 0, none⟩) := ((hρ 93).trans (slotJ [0, 8, 13] (by rw [hsz]; decide) (by kernel_rfl))).trans (hF 0 (by decide))
      have e101 : ρ (.tmp 101) = .int .i64 x := ((hρ 101).trans (slotJ [0, 8, 13] (by rw [hsz]; decide) (by kernel_rfl))).trans (hF 8 (by decide))
      have e106 : ρ (.tmp 106) = .int .i64 ni := ((hρ 106).trans (slotJ [0, 8, 13] (by rw [hsz]; decide) (by kernel_rfl))).trans (hF 13 (by decide))
      clear hρ hF sl0 sl11 sl12 sl14 fin
      exact opv_enter (by go_simp <;> rfl) (of_mke (hp.out w1 hG))
    · exact owes_mvj 14 107 (by kernel_rfl) (by kernel_rfl) (by kernel_rfl) (by kernel_rfl) (by rw [hsz]; decide) (fun v w h => h)
    · refine owes_v (Go.Op.extract (Go.Operand.tmp 92) 0) 59 [15] (by kernel_rfl) (by kernel_rfl) (by kernel_rfl) rfl fun vals w1 ρ hG hF hρ hcst hfun => ?_
      have f92 : (TuV bs) (vals 15) w1 := hF 15 (by decide)
      have e92 : ρ (.tmp 92) = vals 15 := (hρ 92).trans (slotJ [15] (by rw [hsz]; decide) (by kernel_rfl))
      obtain ⟨A', c', ev, hc', hr'⟩ := f92; rw [ev] at e92
      clear hρ hF hcst hfun sl0 sl11 sl12 sl14 fin
      exact opv_val (by go_simp <;> rfl) ⟨gw_self _, A', c', rfl, hc', hr'⟩
    · refine owes_v (Go.Op.extract (Go.Operand.tmp 92) 1) 30 [15] (by kernel_rfl) (by kernel_rfl) (by kernel_rfl) rfl fun vals w1 ρ hG hF hρ hcst hfun => ?_
      have f92 : (TuV bs) (vals 15) w1 := hF 15 (by decide)
      have e92 : ρ (.tmp 92) = vals 15 := (hρ 92).trans (slotJ [15] (by rw [hsz]; decide) (by kernel_rfl))
      obtain ⟨A', c', ev, hc', hr'⟩ := f92; rw [ev] at e92
      clear hρ hF hcst hfun sl0 sl11 sl12 sl14 fin
      exact opv_val (by go_simp <;> rfl) ⟨gw_self _, rfl⟩
    · exact owes_mvj 16 108 (by kernel_rfl) (by kernel_rfl) (by kernel_rfl) (by kernel_rfl) (by rw [hsz]; decide) (fun v w h => h)
    · exact owes_mvj 17 109 (by kernel_rfl) (by kernel_rfl) (by kernel_rfl) (by kernel_rfl) (by rw [hsz]; decide) (fun v w h => h)
  · intro vals w1 hG hF
    exact fin vals w1 hG (hF 18 (by decide +kernel)) (hF 19 (by decide +kernel))
theorem cb24 (Q : Exit → Act → World → Prop) (a0 : Act) (w : World) (A Ai A5 : Option Addr) (n i c ci c5 : Nat) (ad : Addr) (bs : List (BitVec 8)) (hA : A = some ad) (q0 : (0 : Int) ≤ (i : Int)) (q1 : (i : Int) < (n : Int)) (had : ad.block < w.heap.size) (ca : w.cell? (ad.add i) = some (.slice Ai bs.length ci)) (h5 : Hid (Rd b8 w w.heap.size A5 bs)) (hi : Hid (Rd b8 w w.heap.size Ai bs)) (hsz : a0.tmps.size = 122) (sl0 : a0.tmps.getD 0 undef = .slice A n c) (sl14 : a0.tmps.getD 14 undef = .int .i64 i) (sl15 : a0.tmps.getD 15 undef = .slice A5 bs.length c5) (sl16 : a0.tmps.getD 16 undef = .int .i64 0)
    (fin : ∀ (vals : Nat → Value) (w1 : World), Below w.heap.size w w1 → (IsV (.bool false)) (vals 11) w1 → Q .normal (putD vals [110, 111, 112, 113, 114, 115, 116, 117, 118, 119, 120, 121] 0 a0) w1) :
    (Code.region 24 (regIn Try.f6 24) true).wp Try.prog Q a0 w := by
  refine region_by (G := fun w w1 => Below w.heap.size w w1) [IsV (.int .i64 0),
    IsV (.bool false),
    IsV (.bool false),
    IsV (.slice A5 bs.length c5),
    IsV (.string (strB bs)),
    IsV (.slice A n c),
    IsV (.int .i64 i),
    IsV (.pointer (some (ad.add i))),
    IsV (.slice Ai bs.length ci),
    IsV (.string (strB bs)),
    IsV (.bool false),
    IsV (.bool false)]
    [110, 111, 112, 113, 114, 115, 116, 117, 118, 119, 120, 121] (by kernel_rfl) (Gw.drew _) Gw.trans (by rw [hsz]; kernel_rfl) (by kernel_rfl) ?_ ?_ ?_
  · intro f hf
    simp only [List.mem_cons, List.not_mem_nil, or_false] at hf
    rcases hf with rfl | rfl | rfl | rfl | rfl | rfl | rfl | rfl | rfl | rfl | rfl | rfl <;> intro v a b h g <;> first | exact IsV.mono h
  · refine ⟨?_, ?_, ?_, ?_, ?_, ?_, ?_, ?_, ?_, ?_, ?_, ?_, trivial⟩
    · exact owes_mv 16 (by kernel_rfl) (by kernel_rfl) (by kernel_rfl) sl16 (fun _ => rfl)
    · refine owes_v (Go.Op.binOp Go.BinOp.neq 3 (Go.Operand.tmp 110) (Go.Operand.const (Go.Value.int Go.IntKind.i64 0)) 3) 4 [0] (by kernel_rfl) (by kernel_rfl) (by kernel_rfl) rfl fun vals w1 ρ hG hF hρ hcst hfun => ?_
      have e110 : ρ (.tmp 110) = .int .i64 0 := ((hρ 110).trans (slotJ [0] (by rw [hsz]; decide) (by kernel_rfl))).trans (hF 0 (by decide))
      clear hρ hF hfun sl0 sl14 sl15 sl16 fin
      exact opv_val (by go_simp <;> rfl) ⟨gw_self _, rfl⟩
    · exact owes_mvj 1 111 (by kernel_rfl) (by kernel_rfl) (by kernel_rfl) (by kernel_rfl) (by rw [hsz]; decide) (fun v w h => h)
    · refine owes_vt 2 false (Go.Op.move (Go.Operand.tmp 15)) 59 [] (by kernel_rfl) (by kernel_rfl) (by kernel_rfl) (fun _ _ h => h) (by rw [hsz]; kernel_rfl) (by kernel_rfl) rfl fun vals w1 ρ hG hF hρ hcst hfun => ?_
      have e15 : ρ (.tmp 15) = .slice A5 bs.length c5 := ((hρ 15).trans (slotO [] (by kernel_rfl))).trans sl15
      clear hρ hF hcst hfun sl0 sl14 sl15 sl16 fin
      exact opv_val (by go_simp <;> rfl) ⟨gw_self _, rfl⟩
    · refine owes_vt 2 false (Go.Op.convert 59 9 (Go.Operand.tmp 113)) 9 [3] (by kernel_rfl) (by kernel_rfl) (by kernel_rfl) (fun _ _ h => h) (by rw [hsz]; kernel_rfl) (by kernel_rfl) rfl fun vals w1 ρ hG hF hρ hcst hfun => ?_
      have e113 : ρ (.tmp 113) = .slice A5 bs.length c5 := ((hρ 113).trans (slotJ [3] (by rw [hsz]; decide) (by kernel_rfl))).trans (hF 3 (by decide))
      have k : (convert 59 9 (.slice A5 bs.length c5)).run Try.prog w1 = .ok (.string (strB bs)) w1 := str_conv bs A5 c5 _ w1 (h5.out.below hG)
      clear hρ hF hcst hfun sl0 sl14 sl15 sl16 fin
      exact opv_val (by go_simp <;> rfl) ⟨gw_self _, rfl⟩
    · refine owes_vt 2 false (Go.Op.move (Go.Operand.tmp 0)) 58 [] (by kernel_rfl) (by kernel_rfl) (by kernel_rfl) (fun _ _ h => h) (by rw [hsz]; kernel_rfl) (by kernel_rfl) rfl fun vals w1 ρ hG hF hρ hcst hfun => ?_
      have e0 : ρ (.tmp 0) = .slice A n c := ((hρ 0).trans (slotO [] (by kernel_rfl))).trans sl0
      clear hρ hF hcst hfun sl0 sl14 sl15 sl16 fin
      exact opv_val (by go_simp <;> rfl) ⟨gw_self _, rfl⟩
    · refine owes_vt 2 false (Go.Op.move (Go.Operand.tmp 14)) 3 [] (by kernel_rfl) (by kernel_rfl) (by kernel_rfl) (fun _ _ h => h) (by rw [hsz]; kernel_rfl) (by kernel_rfl) rfl fun vals w1 ρ hG hF hρ hcst hfun => ?_
      have e14 : ρ (.tmp 14) = .int .i64 i := ((hρ 14).trans (slotO [] (by kernel_rfl))).trans sl14
      clear hρ hF hcst hfun sl0 sl14 sl15 sl16 fin
      exact opv_val (by go_simp <;> rfl) ⟨gw_self _, rfl⟩
    · refine owes_vt 2 false (Go.Op.indexAddr 58 (Go.Operand.tmp 115) (Go.Operand.tmp 116)) 0 [5, 6] (by kernel_rfl) (by kernel_rfl) (by kernel_rfl) (fun _ _ h => h) (by rw [hsz]; kernel_rfl) (by kernel_rfl) rfl fun vals w1 ρ hG hF hρ hcst hfun => ?_
      have e115 : ρ (.tmp 115) = .slice A n c := ((hρ 115).trans (slotJ [5, 6] (by rw [hsz]; decide) (by kernel_rfl))).trans (hF 5 (by decide))
      have e116 : ρ (.tmp 116) = .int .i64 i := ((hρ 116).trans (slotJ [5, 6] (by rw [hsz]; decide) (by kernel_rfl))).trans (hF 6 (by decide))
      subst hA
      clear hρ hF hcst hfun sl0 sl14 sl15 sl16 fin
      exact opv_val (by go_simp <;> rfl) ⟨gw_self _, rfl⟩
    · refine owes_vt 2 false (Go.Op.load 59 (Go.Operand.tmp 117)) 59 [7] (by kernel_rfl) (by kernel_rfl) (by kernel_rfl) (fun _ _ h => h) (by rw [hsz]; kernel_rfl) (by kernel_rfl) rfl fun vals w1 ρ hG hF hρ hcst hfun => ?_
      have e117 : ρ (.tmp 117) = .pointer (some (ad.add i)) := ((hρ 117).trans (slotJ [7] (by rw [hsz]; decide) (by kernel_rfl))).trans (hF 7 (by decide))
      have k := (hG.cell (p := ad.add i) (by rw [add_block]; exact had)).trans ca
      clear hρ hF hcst hfun sl0 sl14 sl15 sl16 fin
      exact opv_val (by go_simp <;> rfl) ⟨gw_self _, rfl⟩
    · refine owes_vt 2 false (Go.Op.convert 59 9 (Go.Operand.tmp 118)) 9 [8] (by kernel_rfl) (by kernel_rfl) (by kernel_rfl) (fun _ _ h => h) (by rw [hsz]; kernel_rfl) (by kernel_rfl) rfl fun vals w1 ρ hG hF hρ hcst hfun => ?_
      have e118 : ρ (.tmp 118) = .slice Ai bs.length ci := ((hρ 118).trans (slotJ [8] (by rw [hsz]; decide) (by kernel_rfl))).trans (hF 8 (by decide))
      have k : (convert 59 9 (.slice Ai bs.length ci)).run Try.prog w1 = .ok (.string (strB bs)) w1 := str_conv bs Ai ci _ w1 (hi.out.below hG)
      clear hρ hF hcst hfun sl0 sl14 sl15 sl16 fin
      exact opv_val (by go_simp <;> rfl) ⟨gw_self _, rfl⟩
    · refine owes_vt 2 false (Go.Op.binOp Go.BinOp.neq 9 (Go.Operand.tmp 114) (Go.Operand.tmp 119) 9) 4 [4, 9] (by kernel_rfl) (by kernel_rfl) (by kernel_rfl) (fun _ _ h => h) (by rw [hsz]; kernel_rfl) (by kernel_rfl) rfl fun vals w1 ρ hG hF hρ hcst hfun => ?_
      have e114 : ρ (.tmp 114) = .string (strB bs) := ((hρ 114).trans (slotJ [4, 9] (by rw [hsz]; decide) (by kernel_rfl))).trans (hF 4 (by decide))
      have e119 : ρ (.tmp 119) = .string (strB bs) := ((hρ 119).trans (slotJ [4, 9] (by rw [hsz]; decide) (by kernel_rfl))).trans (hF 9 (by decide))
      clear hρ hF hcst hfun sl0 sl14 sl15 sl16 fin
      exact opv_val (by go_simp <;> rfl) ⟨gw_self _, rfl⟩
    · refine owes_v (Go.Op.pick (Go.Operand.tmp 112) (Go.Operand.const (Go.Value.bool true)) (Go.Operand.tmp 120)) 4 [2, 10] (by kernel_rfl) (by kernel_rfl) (by kernel_rfl) rfl fun vals w1 ρ hG hF hρ hcst hfun => ?_
      have e112 : ρ (.tmp 112) = .bool false := ((hρ 112).trans (slotJ [2, 10] (by rw [hsz]; decide) (by kernel_rfl))).trans (hF 2 (by decide))
      have e120 : ρ (.tmp 120) = .bool false := ((hρ 120).trans (slotJ [2, 10] (by rw [hsz]; decide) (by kernel_rfl))).trans (hF 10 (by decide))
      clear hρ hF hfun sl0 sl14 sl15 sl16 fin
      exact opv_val (by go_simp <;> rfl) ⟨gw_self _, rfl⟩
  · intro vals w1 hG hF
    exact fin vals w1 hG (hF 11 (by decide +kernel))
end Go.Proofs.Ytlibcpboooehlaa
