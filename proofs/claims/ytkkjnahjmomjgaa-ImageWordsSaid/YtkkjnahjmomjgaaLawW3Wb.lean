/- The law ImageWords of layer 23 returns true for every argument. -/
import Derived.Test.YtkkjnahjmomjgaaWb12
namespace Go.Proofs.Ytkkjnahjmomjgaa
set_option linter.unusedVariables false
set_option linter.unusedSimpArgs false
open Go.RowKit Go.Maps
set_option maxHeartbeats 8000000
set_option maxRecDepth 100000
theorem iw7 (Q : Exit → Act → World → Prop) (a0 : Act) (w : World) (sg sh : Nat) (gg gh : Gv) (A A2 B B2 : Option Addr) (N M K L a1 a2 b1 b2 : Nat) (er : Int) (hgg : gg.v = .agg #[.slice A N a1, .slice A2 M a2]) (hgh : gh.v = .agg #[.slice B K b1, .slice B2 L b2]) (hf : gg.Small) (ha : Hid (GBx w sg gg (.slice A N a1) (.slice A2 M a2))) (hb : Hid (GBx w sh gh (.slice B K b1) (.slice B2 L b2))) (hsame : sameG gg gh = true) (hsz : a0.tmps.size = 48) (sl3 : a0.tmps.getD 3 undef = .pointer (some ⟨sg, 0, none⟩)) (sl4 : a0.tmps.getD 4 undef = .int .i64 er) (sl5 : a0.tmps.getD 5 undef = .pointer (some ⟨sh, 0, none⟩)) (sl6 : a0.tmps.getD 6 undef = .int .i64 er)
    (fin : ∀ (vals : Nat → Value) (w1 : World), Below w.heap.size w w1 → (IsV (.bool false)) (vals 9) w1 → Q .normal (putD vals [24, 25, 26, 27, 28, 29, 30, 31, 32, 33] 0 a0) w1) :
    (Code.region 7 (regIn Try.f4 7) true).wp Try.prog Q a0 w := by
  refine region_by (G := fun w w1 => Below w.heap.size w w1) [IsV (.int .i64 er),
    IsV (.int .i64 er),
    IsV (.bool false),
    IsV (.bool false),
    IsV (.agg #[.slice A N a1, .slice A2 M a2]),
    OfV gg,
    IsV (.agg #[.slice B K b1, .slice B2 L b2]),
    IsV (.bool true),
    IsV (.bool false),
    IsV (.bool false)]
    [24, 25, 26, 27, 28, 29, 30, 31, 32, 33] (by kernel_rfl) (Gw.drew _) Gw.trans (by rw [hsz]; kernel_rfl) (by kernel_rfl) ?_ ?_ ?_
  · intro f hf
    simp only [List.mem_cons, List.not_mem_nil, or_false] at hf
    rcases hf with rfl | rfl | rfl | rfl | rfl | rfl | rfl | rfl | rfl | rfl <;> intro v a b h g <;> first | exact IsV.mono h | exact OfV.mono h g
  · refine ⟨?_, ?_, ?_, ?_, ?_, ?_, ?_, ?_, ?_, ?_, trivial⟩
    · exact owes_mv 4 (by kernel_rfl) (by kernel_rfl) (by kernel_rfl) sl4 (fun _ => rfl)
    · exact owes_mv 6 (by kernel_rfl) (by kernel_rfl) (by kernel_rfl) sl6 (fun _ => rfl)
    · refine owes_v (Go.Op.binOp Go.BinOp.neq 3 (Go.Operand.tmp 24) (Go.Operand.tmp 25) 3) 4 [0, 1] (by kernel_rfl) (by kernel_rfl) (by kernel_rfl) rfl fun vals w1 ρ hG hF hρ hcst hfun => ?_
      have e24 : ρ (.tmp 24) = .int .i64 er := ((hρ 24).trans (slotJ [0, 1] (by rw [hsz]; decide) (by kernel_rfl))).trans (hF 0 (by decide))
      have e25 : ρ (.tmp 25) = .int .i64 er := ((hρ 25).trans (slotJ [0, 1] (by rw [hsz]; decide) (by kernel_rfl))).trans (hF 1 (by decide))
      clear hρ hF hcst hfun sl3 sl4 sl5 sl6 fin
      exact opv_val (by go_simp <;> first | rfl | simp) ⟨gw_self _, rfl⟩
    · exact owes_mvj 2 26 (by kernel_rfl) (by kernel_rfl) (by kernel_rfl) (by kernel_rfl) (by rw [hsz]; decide) (fun v w h => h)
    · refine owes_vt 3 false (Go.Op.load 25 (Go.Operand.tmp 3)) 25 [] (by kernel_rfl) (by kernel_rfl) (by kernel_rfl) (fun _ _ h => h) (by rw [hsz]; kernel_rfl) (by kernel_rfl) rfl fun vals w1 ρ hG hF hρ hcst hfun => ?_
      have e3 : ρ (.tmp 3) = .pointer (some ⟨sg, 0, none⟩) := ((hρ 3).trans (slotO [] (by kernel_rfl))).trans sl3
      obtain ⟨d0, d1, _⟩ := ha.out w1 hG
      clear hρ hF hcst hfun sl3 sl4 sl5 sl6 fin
      exact opv_val (by go_simp <;> rfl) ⟨gw_self _, rfl⟩
    · refine owes_vt 3 false (Go.Op.call { callee := Go.Callee.value (Go.Operand.func 9), args := #[Go.Operand.tmp 28], argTypes := #[25] }) 31 [4] (by kernel_rfl) (by kernel_rfl) (by kernel_rfl) (fun _ _ h => h) (by rw [hsz]; kernel_rfl) (by kernel_rfl) rfl fun vals w1 ρ hG hF hρ hcst hfun => ?_
      have e28 : ρ (.tmp 28) = .agg #[.slice A N a1, .slice A2 M a2] := ((hρ 28).trans (slotJ [4] (by rw [hsz]; decide) (by kernel_rfl))).trans (hF 4 (by decide))
      clear hρ hF hcst sl3 sl4 sl5 sl6 fin
      exact opv_enter (by go_simp <;> rfl) (of_kS hgg hf (ha.out w1 hG).2.2)
    · refine owes_vt 3 false (Go.Op.load 31 (Go.Operand.tmp 5)) 31 [] (by kernel_rfl) (by kernel_rfl) (by kernel_rfl) (fun _ _ h => h) (by rw [hsz]; kernel_rfl) (by kernel_rfl) rfl fun vals w1 ρ hG hF hρ hcst hfun => ?_
      have e5 : ρ (.tmp 5) = .pointer (some ⟨sh, 0, none⟩) := ((hρ 5).trans (slotO [] (by kernel_rfl))).trans sl5
      obtain ⟨d0, d1, _⟩ := hb.out w1 hG
      clear hρ hF hcst hfun sl3 sl4 sl5 sl6 fin
      exact opv_val (by go_simp <;> rfl) ⟨gw_self _, rfl⟩
    · refine owes_vt 3 false (Go.Op.call { callee := Go.Callee.value (Go.Operand.func 19), args := #[Go.Operand.tmp 29, Go.Operand.tmp 30], argTypes := #[31, 31] }) 4 [5, 6] (by kernel_rfl) (by kernel_rfl) (by kernel_rfl) (fun _ _ h => h) (by rw [hsz]; kernel_rfl) (by kernel_rfl) rfl fun vals w1 ρ hG hF hρ hcst hfun => ?_
      have f29 : (OfV gg) (vals 5) w1 := hF 5 (by decide)
      have e29 : ρ (.tmp 29) = vals 5 := (hρ 29).trans (slotJ [5, 6] (by rw [hsz]; decide) (by kernel_rfl))
      have e30 : ρ (.tmp 30) = .agg #[.slice B K b1, .slice B2 L b2] := ((hρ 30).trans (slotJ [5, 6] (by rw [hsz]; decide) (by kernel_rfl))).trans (hF 6 (by decide))
      clear hρ hF hcst sl3 sl4 sl5 sl6 fin
      exact opv_enter (by go_simp <;> rfl) (of_ret (req_kS hf hsame f29 ⟨gh, hgh.symm, (hb.out w1 hG).2.2, rfl, rfl⟩))
    · refine owes_vt 3 false (Go.Op.unOp Go.UnOp.not 4 (Go.Operand.tmp 31)) 4 [7] (by kernel_rfl) (by kernel_rfl) (by kernel_rfl) (fun _ _ h => h) (by rw [hsz]; kernel_rfl) (by kernel_rfl) rfl fun vals w1 ρ hG hF hρ hcst hfun => ?_
      have e31 : ρ (.tmp 31) = .bool true := ((hρ 31).trans (slotJ [7] (by rw [hsz]; decide) (by kernel_rfl))).trans (hF 7 (by decide))
      clear hρ hF hcst hfun sl3 sl4 sl5 sl6 fin
      exact opv_val (by go_simp <;> rfl) ⟨gw_self _, rfl⟩
    · refine owes_v (Go.Op.pick (Go.Operand.tmp 27) (Go.Operand.const (Go.Value.bool true)) (Go.Operand.tmp 32)) 4 [3, 8] (by kernel_rfl) (by kernel_rfl) (by kernel_rfl) rfl fun vals w1 ρ hG hF hρ hcst hfun => ?_
      have e27 : ρ (.tmp 27) = .bool false := ((hρ 27).trans (slotJ [3, 8] (by rw [hsz]; decide) (by kernel_rfl))).trans (hF 3 (by decide))
      have e32 : ρ (.tmp 32) = .bool false := ((hρ 32).trans (slotJ [3, 8] (by rw [hsz]; decide) (by kernel_rfl))).trans (hF 8 (by decide))
      clear hρ hF hfun sl3 sl4 sl5 sl6 fin
      exact opv_val (by go_simp <;> rfl) ⟨gw_self _, rfl⟩
  · intro vals w1 hG hF
    exact fin vals w1 hG (hF 9 (by decide +kernel))
theorem words_walk (w : World) (A : Option Addr) (ws : List (BitVec 64)) (c : Nat) (_g : ws.length ≤ c) (_m : c ≤ maxLen) (hr : Rd u64v w w.heap.size A ws) :
    Calls Try.prog 4 #[.slice A ws.length c] w (RetP (.bool true) w) := by
  have HK := Lib.hid (known23_c w)
  by_cases hl : 300 < ws.length
  · obtain ⟨N, hN⟩ : ∃ N, N = ws.length := ⟨_, rfl⟩
    rw [← hN] at hl ⊢
    have t1 : (300 : Int) < (N : Int) := by omega
    clear hN hr _g
    go_enter Try.func4, Try.ntmps4
    go_wp2_with fail
    refine Calls.mono HK.out ?_
    rintro r w1 ⟨rfl, b1⟩
    have HB1 := Lib.hid b1
    clear b1
    go_wp2_with fail
    go_ret
    exact ⟨rfl, HB1.out⟩
  · have hl3 : ws.length ≤ 300 := by omega
    have HDec := Lib.hid (fun W (b : Below w.heap.size w W) => decode_c W A c ws ((hr.below b).more b.size) (by omega))
    have HX := Lib.hid (And.intro hr hl3)
    have HRb := Lib.hid (fun W (b : Below w.heap.size w W) (h : BadW ws) => rdecodeB_c W A c ws ((hr.below b).more b.size) (by omega) (imgF_leB hl3) (bad_img (by omega) h))
    obtain ⟨N, hN⟩ : ∃ N, N = ws.length := ⟨_, rfl⟩
    rw [← hN] at hl HDec HRb ⊢
    have t1 : ¬ (300 : Int) < (N : Int) := by omega
    have HN := Lib.hid hN
    clear hN hr _g hl hl3
    go_enter Try.func4, Try.ntmps4
    go_wp2_with fail
    refine Calls.mono HK.out ?_
    rintro r w1 ⟨rfl, b1⟩
    have HB1 := Lib.hid b1
    clear b1
    go_wp2_with fail
    refine Calls.mono (HDec.out w1 HB1.out) ?_
    rintro r w2 (⟨rfl, b2, hbd⟩ | ⟨g, rfl, hgat, k1, k2, k3, b2, _, _⟩)
    · have HB2 := Lib.hid (HB1.out.trans (b2.mono HB1.out.size))
      have HRd := Lib.hid (fun W (b : Below w.heap.size w W) => HRb.out W b hbd)
      clear b2 HB1 HDec hbd HRb
      go_wp2_with fail
      obtain ⟨sg, hsg⟩ : ∃ S, S = w2.heap.size := ⟨_, rfl⟩
      obtain ⟨w3, hw3⟩ : ∃ W, W = w2.alloc (.cells #[.slice none 0 0, .slice none 0 0] 25) := ⟨_, rfl⟩
      have hbk : Bk w3 sg 25 #[.slice none 0 0, .slice none 0 0] := by rw [hw3, hsg]; exact Bk.new w2 _ _
      have b3 : Below w2.heap.size w2 w3 := by rw [hw3]; exact Gw.alloc w2 _
      rw [← hw3, ← hsg]
      have H3 := Lib.hid (And.intro hbk (And.intro (HB2.out.trans (b3.mono HB2.out.size)) b3))
      clear hw3 hsg hbk b3
      refine Calls.mono (HRd.out w3 H3.out.2.1) ?_
      rintro r w4 ⟨rfl, b4⟩
      have H4 := Lib.hid (And.intro (H3.out.1.below b4 H3.out.1.lt) (H3.out.2.1.trans (b4.mono H3.out.2.1.size)))
      clear b4 H3 HRd HB2
      go_wp2_with fail
      obtain ⟨sh, hsh⟩ : ∃ S, S = w4.heap.size := ⟨_, rfl⟩
      obtain ⟨w5, hw5⟩ : ∃ W, W = w4.alloc (.cells #[.slice none 0 0, .slice none 0 0] 31) := ⟨_, rfl⟩
      have hbk : Bk w5 sh 31 #[.slice none 0 0, .slice none 0 0] := by rw [hw5, hsh]; exact Bk.new w4 _ _
      have b5 : Below w4.heap.size w4 w5 := by rw [hw5]; exact Gw.alloc w4 _
      rw [← hw5, ← hsh]
      have H5 := Lib.hid (And.intro (H4.out.1.below b5 H4.out.1.lt) (And.intro hbk (H4.out.2.trans (b5.mono H4.out.2.size))))
      have HGa := Lib.hid (show GBx w5 sg ⟨none, 0, none, 0, [], []⟩ (.slice none 0 0) (.slice none 0 0) from fun W b => ⟨(H5.out.1.below b H5.out.1.lt).cell 0, (H5.out.1.below b H5.out.1.lt).cell 1, ⟨fun i hi => absurd hi (by simp), fun i hi => absurd hi (by simp), Nat.le_refl _, Nat.le_refl _⟩⟩)
      have HGb := Lib.hid (show GBx w5 sh ⟨none, 0, none, 0, [], []⟩ (.slice none 0 0) (.slice none 0 0) from fun W b => ⟨(H5.out.2.1.below b H5.out.2.1.lt).cell 0, (H5.out.2.1.below b H5.out.2.1.lt).cell 1, ⟨fun i hi => absurd hi (by simp), fun i hi => absurd hi (by simp), Nat.le_refl _, Nat.le_refl _⟩⟩)
      clear hw5 hsh hbk b5 H4
      refine iw7 _ _ _ sg sh ⟨none, 0, none, 0, [], []⟩ ⟨none, 0, none, 0, [], []⟩ none none none none 0 0 0 0 0 0 0 0 2 rfl rfl ⟨Nat.zero_le _, Nat.zero_le _, fun x h => by cases h⟩ HGa HGb (by rfl) rfl ?_ ?_ ?_ ?_ ?_
      · rfl
      · rfl
      · rfl
      · rfl
      intro vals w6 hG h33
      unfold IsV at h33
      simp only [putD, Act.put, List.setIfInBounds_toArray, List.set_cons_zero, List.set_cons_succ, h33]
      have H6 := Lib.hid (H5.out.2.2.trans (hG.mono H5.out.2.2.size))
      clear hG h33
      go_wp2_with fail
      go_ret
      exact ⟨rfl, H6.out⟩
    · have HB2 := Lib.hid (HB1.out.trans (b2.mono HB1.out.size))
      have hw8 : ws.length ≤ 8192 := by have := HX.out.2; omega
      have himg : imgF ws = [] := by rw [← k3]; exact img_enc k1 k2
      obtain ⟨l, hok⟩ := img_ok himg
      obtain ⟨ad, rfl⟩ : ∃ ad, A = some ad := by
        obtain ⟨ad, e, _⟩ := HX.out.1 0 (by have := hok.two; omega)
        exact ⟨ad, e⟩
      have HRd := Lib.hid (fun W (b : Below w.heap.size w W) => show Calls Try.prog 18 #[.slice (some ad) N c] W (RDecP ws l W) from by
        rw [HN.out]
        exact rdecode_c W ad c ws ((HX.out.1.below b).more b.size) hw8 himg l hok)
      have hsm : g.Small := ck_small k1 k2
      have HKs := Lib.hid (And.intro k1 (And.intro k2 (And.intro k3 (And.intro hsm (And.intro hok hw8)))))
      have HEn := Lib.hid (fun W (b : Below w2.heap.size w2 W) => (iencode_c W g (hgat.up b) hsm).mono fun r w' h => encX_e h)
      have HAt := Lib.hid hgat
      obtain ⟨va, hva⟩ : ∃ v, v = g.v := ⟨_, rfl⟩
      obtain ⟨gA, gN, ga, gA2, gM, ga2, ea⟩ : ∃ A N a1 A2 M a2, va = .agg #[.slice A N a1, .slice A2 M a2] := ⟨_, _, _, _, _, _, hva⟩
      rw [← hva] at HEn ⊢
      subst ea
      have HVa := Lib.hid hva.symm
      clear b2 HB1 HDec HRb hva k1 k2 k3 hsm hok himg hw8 hgat
      go_wp2_with fail
      obtain ⟨sg, hsg⟩ : ∃ S, S = w2.heap.size := ⟨_, rfl⟩
      obtain ⟨w3, hw3⟩ : ∃ W, W = w2.alloc (.cells #[.slice gA gN ga, .slice gA2 gM ga2] 25) := ⟨_, rfl⟩
      have hbk : Bk w3 sg 25 #[.slice gA gN ga, .slice gA2 gM ga2] := by rw [hw3, hsg]; exact Bk.new w2 _ _
      have b3 : Below w2.heap.size w2 w3 := by rw [hw3]; exact Gw.alloc w2 _
      rw [← hw3, ← hsg]
      have H3 := Lib.hid (And.intro hbk (And.intro (HB2.out.trans (b3.mono HB2.out.size)) b3))
      clear hw3 hsg hbk b3
      refine Calls.mono (HRd.out w3 H3.out.2.1) ?_
      rintro r w4 ⟨gh, rfl, hat, hn1, hr1, b4⟩
      have H4 := Lib.hid (show Bk w4 sg 25 #[.slice gA gN ga, .slice gA2 gM ga2] ∧ Below w.heap.size w w4 ∧ Below w2.heap.size w2 w4 from ⟨H3.out.1.below b4 H3.out.1.lt, H3.out.2.1.trans (b4.mono H3.out.2.1.size), H3.out.2.2.trans (b4.mono H3.out.2.2.size)⟩)
      have hsame : sameG g gh = true := by
        obtain ⟨e1, e2⟩ := read_same (objF_of _ _ _ _ _ HKs.out.2.2.2.2.1.fnd) hn1 hr1 HKs.out.1 HKs.out.2.1 HKs.out.2.2.1
        exact same_norm.2 ⟨e1.symm, e2.symm⟩
      obtain ⟨vb, hvb⟩ : ∃ v, v = gh.v := ⟨_, rfl⟩
      obtain ⟨hA, hN2, ha2, hA2, hM2, ha3, eb⟩ : ∃ A N a1 A2 M a2, vb = .agg #[.slice A N a1, .slice A2 M a2] := ⟨_, _, _, _, _, _, hvb⟩
      rw [← hvb]
      subst eb
      have HVb := Lib.hid (And.intro hvb.symm (And.intro hsame hat))
      clear b4 H3 HRd HB2 hn1 hr1 hsame hvb hat
      go_wp2_with fail
      obtain ⟨sh, hsh⟩ : ∃ S, S = w4.heap.size := ⟨_, rfl⟩
      obtain ⟨w5, hw5⟩ : ∃ W, W = w4.alloc (.cells #[.slice hA hN2 ha2, .slice hA2 hM2 ha3] 31) := ⟨_, rfl⟩
      have hbk : Bk w5 sh 31 #[.slice hA hN2 ha2, .slice hA2 hM2 ha3] := by rw [hw5, hsh]; exact Bk.new w4 _ _
      have b5 : Below w4.heap.size w4 w5 := by rw [hw5]; exact Gw.alloc w4 _
      rw [← hw5, ← hsh]
      have H5 := Lib.hid (show Bk w5 sg 25 #[.slice gA gN ga, .slice gA2 gM ga2] ∧ Bk w5 sh 31 #[.slice hA hN2 ha2, .slice hA2 hM2 ha3] ∧ Below w.heap.size w w5 ∧ Below w2.heap.size w2 w5 from ⟨H4.out.1.below b5 H4.out.1.lt, hbk, H4.out.2.1.trans (b5.mono H4.out.2.1.size), H4.out.2.2.trans (b5.mono H4.out.2.2.size)⟩)
      have HGa := Lib.hid (show GBx w5 sg g (.slice gA gN ga) (.slice gA2 gM ga2) from fun W b => ⟨(H5.out.1.below b H5.out.1.lt).cell 0, (H5.out.1.below b H5.out.1.lt).cell 1, (HAt.out.up H5.out.2.2.2).up b⟩)
      have HGb := Lib.hid (show GBx w5 sh gh (.slice hA hN2 ha2) (.slice hA2 hM2 ha3) from fun W b => ⟨(H5.out.2.1.below b H5.out.2.1.lt).cell 0, (H5.out.2.1.below b H5.out.2.1.lt).cell 1, (HVb.out.2.2.up b5).up b⟩)
      clear hw5 hsh hbk b5 H4
      refine iw7 _ _ _ sg sh g gh gA gA2 hA hA2 gN gM hN2 hM2 ga ga2 ha2 ha3 0 HVa.out HVb.out.1 HKs.out.2.2.2.1 HGa HGb HVb.out.2.1 rfl ?_ ?_ ?_ ?_ ?_
      · rfl
      · rfl
      · rfl
      · rfl
      intro vals w6 hG h33
      unfold IsV at h33
      simp only [putD, Act.put, List.setIfInBounds_toArray, List.set_cons_zero, List.set_cons_succ, h33]
      have H6 := Lib.hid (show Bk w6 sg 25 #[.slice gA gN ga, .slice gA2 gM ga2] ∧ Below w.heap.size w w6 ∧ Below w2.heap.size w2 w6 from ⟨H5.out.1.below hG H5.out.1.lt, H5.out.2.2.1.trans (hG.mono H5.out.2.2.1.size), H5.out.2.2.2.trans (hG.mono H5.out.2.2.2.size)⟩)
      clear hG h33 HGa HGb H5
      obtain ⟨d0, d1⟩ := H6.out.1.two
      have hGl := H6.out.1.lt
      go_wp2_with fail
      refine Calls.mono (HEn.out w6 H6.out.2.2) ?_
      rintro r w7 ⟨xA, xn, xc, rfl, b7, hx1, _⟩
      have he0 : errG g = 0 := by
        unfold errG
        rw [if_pos HKs.out.1, if_neg (by have := HKs.out.2.1; omega)]
      obtain ⟨_, _, c3, _, c5⟩ := hx1 he0
      rw [HKs.out.2.2.1] at c3 c5
      rw [he0]
      have H7 := Lib.hid (H6.out.2.1.trans (b7.mono H6.out.2.1.size))
      have HWd := Lib.hid (show Calls Try.prog 12 #[.slice xA xn xc, .slice (some ad) N c] w7 (RetP (.bool true) w7) from by
        have h1 := words23_c w7 xA (some ad) xc c ws ws c5 ((HX.out.1.below H7.out).more H7.out.size) (by have := HX.out.2; omega) (by have := HX.out.2; omega)
        rw [decide_eq_true rfl, ← c3] at h1
        rw [show N = xn from HN.out.trans c3.symm]
        exact h1)
      clear b7 hx1 he0 c3 c5 d0 d1 hGl H6 HEn
      go_wp2_with fail
      refine Calls.mono HWd.out ?_
      rintro r w8 ⟨rfl, b8⟩
      have H8 := Lib.hid (H7.out.trans (b8.mono H7.out.size))
      clear b8 H7 HWd
      go_wp2_with fail
      go_ret
      exact ⟨rfl, H8.out⟩
end Go.Proofs.Ytkkjnahjmomjgaa
namespace Go.Proofs.Ytkkjnahjmomjgaa.imageWords
open Go.ChangeShapes Go.WideShapes Go.ChangeAt Go.RowKit
open Go.ChangeMaps (open_string shut_string)
set_option linter.unusedVariables false
set_option maxRecDepth 100000 in
theorem lifted (os : Os) (started : os.Started) (H : Type) (enc : TypeId × Value → H) :
    ReturnsInHanded {} Try.checked os 4 .any (Rows.imageWordsSpec.pre6 enc Try.prog Try.f4 Rows.imageWordsRow.domain false) (Rows.imageWordsSpec.post enc Try.prog Try.f4 false true false false) := by
  refine returnsInHanded_of_change (C := Try.checked) own started (by kernel_rfl) Try.func4
    (ChangeSpec.witness6 (enc := enc) (C := Try.checked) false ⟨#[], #[.slice none 0 0], []⟩ 8 (by kernel_rfl) (by kernel_rfl) (by kernel_rfl) (by kernel_rfl)) ?_
  intro W base args ds gs before hval0 hW hcnd _
  have hval : ∀ (j : Nat) t v, Try.f4.params[j]? = some t → args[j]? = some v → Value.okWide Try.prog W .any base t v := hval0
  have hW' := hW
  obtain ⟨p, q, hA0, hV, rfl, hfz, hnd⟩ := hW
  have hA : DataW.TrodAll enc Try.prog W 0 (fun _ => true) true Try.f4.params.toList args.toList ds p := hA0
  rw [Try.params4] at hA hval
  obtain ⟨v0, vs0, d0, ds0, p0, q0, hargs, rfl, rfl, h0, r0⟩ := trodAll_cons hA
  obtain ⟨rfl, rfl, rfl⟩ := trodAll_nil r0
  obtain rfl : args = #[v0] := by cases args; simp_all
  obtain ⟨rfl, rfl⟩ := trodVars_none hV
  have k0 := h0
  have lt0 : ∀ x ∈ p0, x.block < W.heap.size := by obtain ⟨m, hm⟩ := k0; exact DataW.trod_lt m _ _ _ hm
  obtain ⟨A0, a0, c0, e0v, g0, m0, w0⟩ := open_words Try.underlying33 Try.underlying57 (by kernel_rfl) (hval 0 33 v0 rfl rfl) h0; subst e0v
  clear hA0 hval0
  refine (words_walk W A0 a0 c0 g0 m0 w0).mono fun e W' ⟨he, bel⟩ => ?_
  subst he
  exact ⟨_, rfl, _, _, _, [], _, [], hW', trodAll_mk1 (shut_bool Try.underlying4 _), (trodAll_cons_mk (Below.trod laidOut (by kernel_rfl) (of_decide_eq_true (by kernel_rfl)) k0 bel lt0) trodAll_mk0), rfl, bel.frame _, fun h => by cases h⟩
theorem over : Rows.imageWordsRow.holds Try.pinned (OpenSpec.ofChange Rows.imageWordsSpec) :=
  OpenClaim.holds_of_wide 4 Try.f4 rfl rfl rfl rfl rfl rfl rfl ⟨rfl, rfl, rfl, rfl, rfl⟩ rfl rfl rfl rfl rfl (by kernel_rfl) Try.func4 (by kernel_rfl)
    (of_decide_eq_true (by kernel_rfl)) (by unfold Func.isWrapper; first | (rw [if_pos (by decide +kernel)]; kernel_rfl) | (rw [if_neg (by decide +kernel)]; exact ⟨rfl, rfl⟩))
    (fun os started H enc _ => lifted os started H enc)
theorem proved : Rows.ImageWordsSaid := over
end Go.Proofs.Ytkkjnahjmomjgaa.imageWords
