/- What loamlaw11's known calls: each step. No conditions. -/
import Derived.Test.YthmaofbnhfgfaaaCmK
import Derived.Test.YthmaofbnhfgfaaaCmM
import Derived.Lib.SmallJoins
namespace Go.Proofs.Ythmaofbnhfgfaaa
set_option linter.unusedVariables false
set_option linter.unusedSimpArgs false
open Go.RowKit Go.Maps
set_option maxRecDepth 100000
set_option maxHeartbeats 4000000
section
variable {w : World} {g fb mb : Nat}
theorem kw2 (x y : Int) (h1 : -9223372036854775808 ≤ x ∧ x ≤ 9223372036854775807) (h2 : -9223372036854775808 ≤ y ∧ y ≤ 9223372036854775807) : kW (x, y) := ⟨wfI h1.1 h1.2, wfI h2.1 h2.2⟩
theorem k11_p1 (h : CaAt w g fb mb 1 [frZ] 0 [] none) (A : Option Addr) (c : Nat) (hr : Rd b8 w w.heap.size A [120#8]) (hA : ∀ a, A = some a → ¬ Cx g fb mb a.block) :
    Calls Try.prog 8 #[.pointer (some ⟨g, 0, none⟩), .agg #[.int .i64 0, .int .i64 1], .slice A 1 c, .bool true] w fun e w' => ∃ A2 c2, e = .returned (.tuple #[.agg #[.int .i64 0, .int .i64 0, .slice none 0 0, .bool false, .bool false], .int .i64 0]) ∧ CaAt w' g fb mb 1 [frN (0, 1) [120#8] true A2 c2] 0 [((0, 1), 0)] none ∧ Kept (Cx g fb mb) w w' :=
  put_new h (0, 1) (kw2 0 1 (by decide) (by decide)) rfl A [120#8] 1 c rfl (by decide) hr (fun a e _ => hA a e) true 0 0 0 none 0 0 false false [frZ] 0 [] (by decide) rfl (by decide) (fun f hf a e _ => by
    simp only [List.mem_cons, List.not_mem_nil, or_false] at hf; subst hf; cases e)
    (fun W hW => (room_empty (h.below hW) 0 (by decide) (fun j hj hj2 => absurd hj2 (by omega)) (fun hj => rfl)).mono (fun e w' he => ⟨he.1, ((h.below hW).below he.2).hole 0 (by decide) rfl, Kept.of_below he.2 _⟩))
theorem k11_p2 (A1 : Option Addr) (c1 : Nat) (h : CaAt w g fb mb 1 [frN (0, 1) [120#8] true A1 c1] 0 [((0, 1), 0)] none) (A : Option Addr) (c : Nat) (hr : Rd b8 w w.heap.size A [121#8]) (hA : ∀ a, A = some a → ¬ Cx g fb mb a.block) :
    Calls Try.prog 8 #[.pointer (some ⟨g, 0, none⟩), .agg #[.int .i64 0, .int .i64 2], .slice A 1 c, .bool false] w fun e w' => ∃ A2 c2, e = .returned (.tuple #[.agg #[.int .i64 0, .int .i64 1, .slice A1 1 c1, .bool true, .bool true], .int .i64 0]) ∧ CaAt w' g fb mb 1 [frN (0, 2) [121#8] false A2 c2] 0 [((0, 2), 0)] none ∧ Kept (Cx g fb mb) w w' :=
  put_new h (0, 2) (kw2 0 2 (by decide) (by decide)) (by decide) A [121#8] 1 c rfl (by decide) hr (fun a e _ => hA a e) false 0 0 1 A1 1 c1 true true [{ frN (0, 1) [120#8] true A1 c1 with mrk := false }] 0 [] (by simp) rfl (by decide) (fun f hf a e hb => by
    simp only [List.mem_cons, List.not_mem_nil, or_false] at hf; subst hf
    exact h.lows (frN (0, 1) [120#8] true A1 c1) (by simp) a e hb)
    (fun W hW => (room_evict (h.below hW) (fun f hf => by simp only [List.mem_cons, List.not_mem_nil, or_false] at hf; subst hf; rfl) 0 (by decide) (fun j hj hj2 => absurd hj2 (by omega)) (fun hj => rfl) 1 [{ frN (0, 1) [120#8] true A1 c1 with mrk := false }] 0
      (.mrk 0 _ 0 _ 0 (by simp) rfl rfl (.here _ 0 (by simp) rfl rfl))).mono (fun e w' he => by
        obtain ⟨hi, h1, h2, h3⟩ := he
        have h2' : CaAt w' g fb mb 1 [{ frN (0, 1) [120#8] true A1 c1 with mrk := false }] 0 (delK [((0, 1), 0)] (0, 1)) (some 0) := h2
        rw [show delK [(((0 : Int), (1 : Int)), (0 : Int))] (0, 1) = [] from by decide] at h2'
        exact ⟨h1, h2', h3⟩))
theorem k11_g (A1 : Option Addr) (c1 : Nat) (h : CaAt w g fb mb 1 [frN (0, 2) [121#8] false A1 c1] 0 [((0, 2), 0)] none) :
    Calls Try.prog 9 #[.pointer (some ⟨g, 0, none⟩), .agg #[.int .i64 0, .int .i64 2]] w fun e w' => ∃ A c, e = .returned (.tuple #[.slice A 1 c, .bool true]) ∧ (Rd b8 w' w'.heap.size A [121#8] ∧ ∀ a, A = some a → w.heap.size ≤ a.block) ∧ CaAt w' g fb mb 1 [frN (0, 2) [121#8] false A1 c1] 0 [((0, 2), 0)] none ∧ Kept (Cx g fb mb) w w' :=
  (get_hit h (0, 2) (kw2 0 2 (by decide) (by decide)) 0 (by simp) rfl rfl)
theorem k11_pin (A1 : Option Addr) (c1 : Nat) (h : CaAt w g fb mb 1 [frN (0, 2) [121#8] false A1 c1] 0 [((0, 2), 0)] none) :
    Calls Try.prog 11 #[.pointer (some ⟨g, 0, none⟩), .agg #[.int .i64 0, .int .i64 2]] w fun e w' => e = .returned (.bool true) ∧ CaAt w' g fb mb 1 [(frN (0, 2) [121#8] false A1 c1).pin] 0 [((0, 2), 0)] none ∧ Kept (Cx g fb mb) w w' :=
  (pin_hit h (0, 2) (kw2 0 2 (by decide) (by decide)) 0 (by simp) rfl rfl (by show (0 : Nat) < _; omega))
theorem k11_p3 (A1 : Option Addr) (c1 : Nat) (h : CaAt w g fb mb 1 [(frN (0, 2) [121#8] false A1 c1).pin] 0 [((0, 2), 0)] none) :
    Calls Try.prog 8 #[.pointer (some ⟨g, 0, none⟩), .agg #[.int .i64 0, .int .i64 1], .slice none 0 0, .bool false] w fun e w' => e = .returned (.tuple #[.agg #[.int .i64 0, .int .i64 0, .slice none 0 0, .bool false, .bool false], .int .i64 6]) ∧ Below w.heap.size w w' :=
  put_full h (0, 1) (kw2 0 1 (by decide) (by decide)) (by decide) none 0 0 false (fun f hf => by simp only [List.mem_cons, List.not_mem_nil, or_false] at hf; subst hf; rfl) (fun f hf => by simp only [List.mem_cons, List.not_mem_nil, or_false] at hf; subst hf; show (0 + 1 : Nat) ≠ 0; decide)
theorem k11_d (A1 : Option Addr) (c1 : Nat) (h : CaAt w g fb mb 1 [(frN (0, 2) [121#8] false A1 c1).pin] 0 [((0, 2), 0)] none) :
    Calls Try.prog 14 #[.pointer (some ⟨g, 0, none⟩)] w fun e w' => ∃ A c, e = .returned (.slice A 0 c) ∧ Below w.heap.size w w' :=
  dirty_c h 0 rfl (by decide)
theorem k11_l (A1 : Option Addr) (c1 : Nat) (h : CaAt w g fb mb 1 [(frN (0, 2) [121#8] false A1 c1).pin] 0 [((0, 2), 0)] none) :
    Calls Try.prog 10 #[.pointer (some ⟨g, 0, none⟩)] w fun e w' => e = .returned (.int .i64 1) ∧ w' = w := len_c h
/-- A byte as a constant row. -/
theorem by_rd (w : World) (x : BitVec 8) (n : Int) (hn : b8 x = .int .u8 n) (g : Nat × Nat) : Rd b8 (w.alloc (.cells #[.int .u8 n] 5 g)) (w.heap.size + 1) (some ⟨w.heap.size, 0, none⟩) [x] := by
  have h := heap_alloc_new w (.cells #[.int .u8 n] 5 g)
  intro j hj
  refine ⟨_, rfl, by simp, ?_⟩
  have e2 : ((⟨w.heap.size, 0, none⟩ : Addr).add j) = ⟨w.heap.size, j, none⟩ := by unfold Addr.add; by_cases k : j = 0 <;> simp [k]
  rw [e2, cell_of_row _ _ j _ _ _ h]
  rcases j with _ | j
  · exact congrArg some hn.symm
  · simp at hj
theorem known11_c (w : World) : Calls Try.prog 6 #[] w (RetP (.bool true) w) := by
  have HNew := Lib.hid (show Calls Try.prog 7 #[.int .i64 1] w fun e w' => ∃ g fb mb, e = .returned (.tuple #[.pointer (some ⟨g, 0, none⟩), .int .i64 0]) ∧ CaAt w' g fb mb 1 [frZ] 0 [] none ∧ (∀ k, Cx g fb mb k → w.heap.size ≤ k) ∧ Below w.heap.size w w' from new_c w 1 (by decide) (by decide))
  have kc := fun (x : Int) (W : World) => Joins.run_convert_bytes_const_at (P := Try.prog) W 30 5 #[.int .u8 x] 1 1 W.heap.size rfl Try.underlying30 Try.underlying5
  have HKC := Lib.hid kc
  clear kc
  go_enter Try.func6, Try.ntmps6
  go_wp2_with fail
  refine Calls.mono HNew.out ?_
  rintro e w1 ⟨g, fb, mb, rfl, h1, hx, b1⟩
  have H1 := Lib.hid (And.intro h1 (And.intro hx b1))
  clear h1 hx b1 HNew
  have kc1 := HKC.out 120 ((w1.alloc (.cells #[.int .i64 0, .int .i64 1] 29)).alloc (.cells #[.int .i64 0, .int .i64 2] 29))
  simp only [World.size_alloc] at kc1
  obtain ⟨q, hq⟩ : ∃ q, q = w1.heap.size := ⟨_, rfl⟩
  have hlt : ∀ k, Cx g fb mb k → k < w1.heap.size := fun k e => by
    have a1 := H1.out.1.blk.lt
    have a2 := H1.out.1.fr.lt
    have a3 := H1.out.1.map.lt
    rcases e with e | e | e <;> omega
  have HX := Lib.hid (show ∀ k, w1.heap.size ≤ k → ¬ Cx g fb mb k from fun k h e => by have := hlt k e; omega)
  have S1 := Lib.hid (show ∀ W, W = (((w1.alloc (.cells #[.int .i64 0, .int .i64 1] 29)).alloc (.cells #[.int .i64 0, .int .i64 2] 29)).alloc (.cells #[.int .u8 120] 5 (1, 2))) → Below w1.heap.size w1 W ∧ CaAt W g fb mb 1 [frZ] 0 [] none ∧ Bk W w1.heap.size 29 #[.int .i64 0, .int .i64 1] ∧ Bk W (w1.heap.size + 1) 29 #[.int .i64 0, .int .i64 2] ∧ Rd b8 W W.heap.size (some ⟨w1.heap.size + 1 + 1, 0, none⟩) [120#8] from by
    rintro W rfl
    have hb : Below w1.heap.size w1 (((w1.alloc (.cells #[.int .i64 0, .int .i64 1] 29)).alloc (.cells #[.int .i64 0, .int .i64 2] 29)).alloc (.cells #[.int .u8 120] 5 (1, 2))) := ((Gw.alloc w1 _).trans ((Gw.alloc _ _).mono (by simp))).trans ((Gw.alloc _ _).mono (by simp; omega))
    have k2 := Bk.new (w1.alloc (.cells #[.int .i64 0, .int .i64 1] 29)) 29 #[.int .i64 0, .int .i64 2]
    have k3 := by_rd ((w1.alloc (.cells #[.int .i64 0, .int .i64 1] 29)).alloc (.cells #[.int .i64 0, .int .i64 2] 29)) 120#8 120 (by unfold b8; rw [show U8 120#8 = 120 from by decide +kernel]) (1, 2)
    simp only [World.size_alloc] at k2 k3
    exact ⟨hb, H1.out.1.below hb, ((Bk.new w1 _ _).alloc _).alloc _, k2.alloc _, k3.more (by simp)⟩)
  clear hq hlt
  go_wp2_with fail
  obtain ⟨d1, d2, d3, d4, d5⟩ := S1.out _ rfl
  have HP := Lib.hid (k11_p1 d2 _ 1 d5 (fun a e => by injection e with e; rw [← e]; exact HX.out _ (by show w1.heap.size ≤ w1.heap.size + 1 + 1; omega)))
  have HD := Lib.hid (And.intro d1 (And.intro d3 d4))
  clear d1 d2 d3 d4 d5 kc1
  refine Calls.mono HP.out ?_
  rintro e w3 ⟨A2, c2, rfl, h3, k3⟩
  have H3 := Lib.hid (show CaAt w3 g fb mb 1 [frN (0, 1) [120#8] true A2 c2] 0 [((0, 1), 0)] none ∧ Kept (Cx g fb mb) w1 w3 ∧ Bk w3 w1.heap.size 29 #[.int .i64 0, .int .i64 1] ∧ Bk w3 (w1.heap.size + 1) 29 #[.int .i64 0, .int .i64 2] from ⟨h3, (Kept.of_below HD.out.1 _).trans k3, k3.bk HD.out.2.1 (HX.out _ (Nat.le_refl _)), k3.bk HD.out.2.2 (HX.out _ (by omega))⟩)
  clear h3 k3 HP HD S1
  obtain ⟨O3, hO3⟩ : ∃ o : Obj, o = .cells #[.int .i64 0, .int .i64 0, .slice none 0 0, .bool false, .bool false] 32 := ⟨_, rfl⟩
  have e4 := ((H3.out.2.2.2.alloc O3).two)
  have kc2 := HKC.out 121 (w3.alloc O3)
  rw [hO3] at e4 kc2
  obtain ⟨e40, e41⟩ := e4
  simp only [World.size_alloc] at kc2
  clear hO3
  have S4 := Lib.hid (show ∀ W, W = ((w3.alloc (.cells #[.int .i64 0, .int .i64 0, .slice none 0 0, .bool false, .bool false] 32)).alloc (.cells #[.int .u8 121] 5 (1, 2))) → Below w3.heap.size w3 W ∧ Rd b8 W W.heap.size (some ⟨w3.heap.size + 1, 0, none⟩) [121#8] from by
    rintro W rfl
    have k3 := by_rd (w3.alloc (.cells #[.int .i64 0, .int .i64 0, .slice none 0 0, .bool false, .bool false] 32)) 121#8 121 (by unfold b8; rw [show U8 121#8 = 121 from by decide +kernel]) (1, 2)
    simp only [World.size_alloc] at k3
    exact ⟨(Gw.alloc w3 _).trans ((Gw.alloc _ _).mono (by simp)), k3.more (by simp)⟩)
  have HA2 := Lib.hid (show Rd b8 w3 w3.heap.size A2 [120#8] ∧ ∀ a, A2 = some a → ¬ Cx g fb mb a.block from by
    have := H3.out.1.data (frN (0, 1) [120#8] true A2 c2) (by simp)
    refine ⟨this.1, fun a e hc => ?_⟩
    have h2 := this.2.2 a e (by show [120#8] ≠ []; simp)
    rcases hc with hc | hc | hc
    · exact h2.1 hc
    · exact h2.2.1 hc
    · exact h2.2.2 hc)
  have HS3 := Lib.hid (show w1.heap.size + 1 < w3.heap.size from H3.out.2.2.2.lt)
  go_wp2_with fail
  obtain ⟨d1, d2⟩ := S4.out _ rfl
  have HP := Lib.hid (k11_p2 A2 c2 (H3.out.1.below d1) _ 1 d2 (fun a e => by injection e with e; rw [← e]; exact HX.out _ (by show w1.heap.size ≤ w3.heap.size + 1; have := HS3.out; omega)))
  have HD := Lib.hid (And.intro d1 (And.intro (H3.out.2.2.1.below d1 H3.out.2.2.1.lt) (And.intro (H3.out.2.2.2.below d1 H3.out.2.2.2.lt) ((HA2.out.1.below d1).more d1.size))))
  clear d1 d2 kc2 e40 e41 S4
  refine Calls.mono HP.out ?_
  rintro e w5 ⟨A5, c5, rfl, h5, k5⟩
  have H5 := Lib.hid (show CaAt w5 g fb mb 1 [frN (0, 2) [121#8] false A5 c5] 0 [((0, 2), 0)] none ∧ Kept (Cx g fb mb) w1 w5 ∧ Bk w5 w1.heap.size 29 #[.int .i64 0, .int .i64 1] ∧ Bk w5 (w1.heap.size + 1) 29 #[.int .i64 0, .int .i64 2] ∧ Rd b8 w5 w5.heap.size A2 [120#8] from
    ⟨h5, H3.out.2.1.trans ((Kept.of_below HD.out.1 _).trans k5), k5.bk HD.out.2.1 (HX.out _ (Nat.le_refl _)), k5.bk HD.out.2.2.1 (HX.out _ (by omega)), k5.rd HD.out.2.2.2 HA2.out.2⟩)
  have HS5 := Lib.hid (show w1.heap.size + 1 < w5.heap.size from H5.out.2.2.2.1.lt)
  clear h5 k5 HP HD
  obtain ⟨O5, hO5⟩ : ∃ o : Obj, o = .cells #[.int .i64 0, .int .i64 1, .slice A2 1 c2, .bool true, .bool true] 32 := ⟨_, rfl⟩
  have HO5 := Lib.hid hO5
  obtain ⟨e50, e51⟩ := ((H5.out.2.2.2.1.alloc O5).two)
  have HG := Lib.hid (k11_g A5 c5 (H5.out.1.below (Gw.alloc w5 O5)))
  rw [hO5] at e50 e51 HG
  clear hO5
  go_wp2_with fail
  refine Calls.mono HG.out ?_
  rintro e w6 ⟨A6, c6, rfl, ⟨r6, a6⟩, h6, k6⟩
  rw [← HO5.out] at k6 a6
  have q5 : Bk (w5.alloc O5) w5.heap.size 32 #[.int .i64 0, .int .i64 1, .slice A2 1 c2, .bool true, .bool true] := by rw [HO5.out]; exact Bk.new w5 _ _
  have H6 := Lib.hid (show CaAt w6 g fb mb 1 [frN (0, 2) [121#8] false A5 c5] 0 [((0, 2), 0)] none ∧ Kept (Cx g fb mb) w1 w6 ∧ Bk w6 w1.heap.size 29 #[.int .i64 0, .int .i64 1] ∧ Bk w6 (w1.heap.size + 1) 29 #[.int .i64 0, .int .i64 2] ∧ Rd b8 w6 w6.heap.size A2 [120#8] ∧ Bk w6 w5.heap.size 32 #[.int .i64 0, .int .i64 1, .slice A2 1 c2, .bool true, .bool true] ∧ Rd b8 w6 w6.heap.size A6 [121#8] ∧ ∀ a, A6 = some a → ¬ Cx g fb mb a.block from
    ⟨h6, H5.out.2.1.trans ((Kept.of_below (Gw.alloc w5 O5) _).trans k6), k6.bk (H5.out.2.2.1.alloc _) (HX.out _ (Nat.le_refl _)), k6.bk (H5.out.2.2.2.1.alloc _) (HX.out _ (by omega)), k6.rd ((H5.out.2.2.2.2.below (Gw.alloc w5 O5)).more (by simp)) HA2.out.2, k6.bk q5 (HX.out _ (by have := HS5.out; omega)), r6, fun a e => HX.out _ (by have := a6 a e; simp at this; have := HS5.out; omega)⟩)
  clear r6 a6 h6 k6 q5 e50 e51 HG HO5
  obtain ⟨e60, e61⟩ := H6.out.2.2.2.1.two
  have HPi := Lib.hid (k11_pin A5 c5 H6.out.1)
  go_wp2_with fail
  refine Calls.mono HPi.out ?_
  rintro e w7 ⟨rfl, h7, k7⟩
  have H7 := Lib.hid (show CaAt w7 g fb mb 1 [(frN (0, 2) [121#8] false A5 c5).pin] 0 [((0, 2), 0)] none ∧ Kept (Cx g fb mb) w1 w7 ∧ Bk w7 w1.heap.size 29 #[.int .i64 0, .int .i64 1] ∧ Rd b8 w7 w7.heap.size A2 [120#8] ∧ Bk w7 w5.heap.size 32 #[.int .i64 0, .int .i64 1, .slice A2 1 c2, .bool true, .bool true] ∧ Rd b8 w7 w7.heap.size A6 [121#8] from
    ⟨h7, H6.out.2.1.trans k7, k7.bk H6.out.2.2.1 (HX.out _ (Nat.le_refl _)), k7.rd H6.out.2.2.2.2.1 HA2.out.2, k7.bk H6.out.2.2.2.2.2.1 (HX.out _ (by have := HS5.out; omega)), k7.rd H6.out.2.2.2.2.2.2.1 H6.out.2.2.2.2.2.2.2⟩)
  clear h7 k7 HPi e60 e61
  obtain ⟨e70, e71⟩ := H7.out.2.2.1.two
  have HPf := Lib.hid (k11_p3 A5 c5 H7.out.1)
  go_wp2_with fail
  refine Calls.mono HPf.out ?_
  rintro e w8 ⟨rfl, b8_⟩
  have H8 := Lib.hid (show ∀ W, W = w8.alloc (.cells #[.int .i64 0, .int .i64 0, .slice none 0 0, .bool false, .bool false] 32) → Below w7.heap.size w7 W from by rintro W rfl; exact b8_.trans ((Gw.alloc w8 _).mono b8_.size))
  clear b8_ HPf e70 e71
  have HL := Lib.hid (fun W (hW : Below w7.heap.size w7 W) => k11_l A5 c5 (H7.out.1.below hW))
  have HDi := Lib.hid (fun W (hW : Below w7.heap.size w7 W) => k11_d A5 c5 (H7.out.1.below hW))
  obtain ⟨W8, hW8⟩ : ∃ W, W = w8.alloc (.cells #[.int .i64 0, .int .i64 0, .slice none 0 0, .bool false, .bool false] 32) := ⟨_, rfl⟩
  have hb := H8.out W8 hW8
  obtain ⟨z0, z1, z2, z3, z4⟩ := (H7.out.2.2.2.2.1.below hb H7.out.2.2.2.2.1.lt).fiveG
  obtain ⟨y0, y1⟩ := (H7.out.2.2.1.below hb H7.out.2.2.1.lt).two
  have cv1 := str_conv [120#8] A2 c2 _ W8 ((H7.out.2.2.2.1.below hb).more hb.size)
  have cv2 := str_conv [121#8] A6 c6 _ W8 ((H7.out.2.2.2.2.2.below hb).more hb.size)
  rw [show strB [120#8] = ⟨#[120]⟩ from rfl, show [120#8].length = 1 from rfl] at cv1
  rw [show strB [121#8] = ⟨#[121]⟩ from rfl, show [121#8].length = 1 from rfl] at cv2
  have heq : ∀ W, (Op.equalIn 10000 29 (.agg #[.int .i64 0, .int .i64 1]) (.agg #[.int .i64 0, .int .i64 1])).run Try.prog W = .ok true W := fun W => by
    rw [show (10000 : Nat) = 9998 + 2 from rfl, Op.equalIn]
    simp only [Sem.run_bind, run_underlying Try.underlying29, Result.andThen_ok]
    go_simp
  have HL8 := Lib.hid (HL.out W8 hb)
  have HD8 := Lib.hid (HDi.out W8 hb)
  have h17 : Below w.heap.size w w7 := H1.out.2.2.trans (H7.out.2.1.below H1.out.2.2.size (fun k e => H1.out.2.1 k e))
  have HB8 := Lib.hid (h17.trans (hb.mono h17.size))
  clear h17
  rw [hW8] at z0 z1 z2 z3 z4 y0 y1 cv1 cv2 HL8 HD8 HB8
  clear hb hW8
  go_wp2_with fail
  refine Calls.mono HL8.out ?_
  rintro e w9 ⟨rfl, rfl⟩
  clear z0 z1 z2 z3 z4 y0 y1 cv1 cv2
  go_wp2_with fail
  refine Calls.mono HD8.out ?_
  rintro e w10 ⟨A10, c10, rfl, b10⟩
  have HE := Lib.hid (HB8.out.trans (b10.mono HB8.out.size))
  clear b10 HD8 HL8
  go_wp2_with fail
  go_ret
  exact ⟨rfl, HE.out⟩
end
end Go.Proofs.Ythmaofbnhfgfaaa
