/- What loamlaw17.known answers. No conditions. -/
import Derived.Test.YtidaimcndbhefaaGrJ
namespace Go.Proofs.Ytidaimcndbhefaa
set_option linter.unusedVariables false
set_option linter.unusedSimpArgs false
open Go.RowKit Go.Maps
set_option maxHeartbeats 4000000
set_option maxRecDepth 100000
theorem k17_trim (w : World) : Calls Try.prog 15 #[.agg #[.slice (some ⟨w.heap.size + 1 + 1, 0, none⟩) 3 3, .slice (some ⟨w.heap.size + 1 + 1 + 1, 0, none⟩) 1 1], .slice none 0 0] (kW w) fun e w' => ∃ (g' : Gv) (q : Nat), e = .returned (.tuple #[.agg #[.slice g'.A 2 g'.c, .slice g'.A2 g'.r.length g'.c2], .slice (some ⟨q, 0, none⟩) 3 3]) ∧ g'.n.length = 2 ∧ g'.At w' w'.heap.size ∧ g'.Small ∧ Ow iV 3 w' (kW w).heap.size (.slice (some ⟨q, 0, none⟩) 3 3) [1, 2, 0] ∧ Below (kW w).heap.size (kW w) w' := by
  have h := trim_g (kW w) (kG w.heap.size) (kG_at w) (kG_small _) (by show 1 ≤ _; omega) (fun x hx p hp => by
    have hx : x ∈ kN w.heap.size := hx
    unfold kN at hx
    simp only [List.mem_cons, List.not_mem_nil, or_false] at hx
    rcases hx with rfl | rfl | rfl
    · simp only [List.mem_cons, List.not_mem_nil, or_false] at hp; subst hp; rfl
    · cases hp
    · cases hp) (fun r hr => by
    have hr : r ∈ kR := hr
    unfold kR at hr
    simp only [List.mem_cons, List.not_mem_nil, or_false] at hr
    subst hr; rfl) none 0 [] Rd.nil (by simp)
  refine h.mono ?_
  rintro e w' ⟨L, g', q, rfl, h1, h2, h3, h4, h5, h6, h7, h8⟩
  have hL : L = [true, true, false] := seen3 h6 h7 (by show _ ↔ Rch (kN w.heap.size) [1] _; rw [kRch _ _ rfl]; simp) (by show _ ↔ Rch (kN w.heap.size) [1] _; rw [kRch _ _ rfl]; simp) (by show _ ↔ Rch (kN w.heap.size) [1] _; rw [kRch _ _ rfl]; simp)
  subst hL
  have hm : g'.n.map Nv.m = [([2], []), ([], [120#8])] := h4
  have hl : g'.n.length = 2 := by
    have := congrArg List.length hm
    rw [List.length_map] at this
    exact this
  have hr1 : g'.r.length = 1 := by rw [h5]; rfl
  have r1 := NOwn.rows h1
  have r2 := ROwn.rows h2
  refine ⟨g', q, ?_, hl, ⟨r1.1, r2.1, r1.2.2, r2.2.2⟩, ⟨by omega, by omega, fun x hx => ?_⟩, h3, h8⟩
  · show Ending.returned (.tuple #[.agg #[.slice g'.A g'.n.length g'.c, .slice g'.A2 g'.r.length g'.c2], _]) = _
    rw [hl]; rfl
  · have : x.m ∈ g'.n.map Nv.m := List.mem_map.2 ⟨x, hx, rfl⟩
    rw [hm] at this
    simp only [List.mem_cons, List.not_mem_nil, or_false] at this
    rcases this with e | e
    · unfold Nv.m at e; injection e with e1 e2; rw [e1, e2]; simp
    · unfold Nv.m at e; injection e with e1 e2; rw [e1, e2]; simp
/-- What known holds, behind Trim and Reach. -/
structure KS (w W : World) (b2 q qr : Nat) (t : Gv) (M : Nat) : Prop where
  ga : (kG w.heap.size).At W W.heap.size
  ta : t.At W W.heap.size
  bx : Bk W (w.heap.size + 1 + 1 + 1 + 1) 25 #[.slice (some ⟨w.heap.size + 1 + 1, 0, none⟩) 3 3, .slice (some ⟨w.heap.size + 1 + 1 + 1, 0, none⟩) 1 1]
  by_ : Bk W b2 25 #[.slice t.A 2 t.c, .slice t.A2 M t.c2]
  to : Ow iV 3 W 0 (.slice (some ⟨q, 0, none⟩) 3 3) [1, 2, 0]
  re : Ow tV 4 W 0 (.slice (some ⟨qr, 0, none⟩) 3 3) [false, true, false]
  bl : Below w.heap.size w W
theorem KS.below {w W W' : World} {b2 q qr : Nat} {t : Gv} {M : Nat} (h : KS w W b2 q qr t M) (hb : Below W.heap.size W W') : KS w W' b2 q qr t M :=
  ⟨h.ga.up hb, h.ta.up hb, h.bx.below hb h.bx.lt, h.by_.below hb h.by_.lt, h.to.below hb, h.re.below hb, h.bl.trans (hb.mono h.bl.size)⟩
theorem KS.cells {w W : World} {b2 q qr : Nat} {t : Gv} {M : Nat} (h : KS w W b2 q qr t M) : W.cell? ⟨w.heap.size + 1 + 1 + 1 + 1, 0, none⟩ = some (.slice (some ⟨w.heap.size + 1 + 1, 0, none⟩) 3 3) ∧ W.cell? ⟨w.heap.size + 1 + 1 + 1 + 1, 1, none⟩ = some (.slice (some ⟨w.heap.size + 1 + 1 + 1, 0, none⟩) 1 1) ∧
    W.cell? ⟨b2, 0, none⟩ = some (.slice t.A 2 t.c) ∧ W.cell? ⟨b2, 1, none⟩ = some (.slice t.A2 M t.c2) ∧ W.cell? ⟨q, 1, none⟩ = some (.int .i64 2) ∧ W.cell? ⟨q, 2, none⟩ = some (.int .i64 0) ∧ W.cell? ⟨qr, 0, none⟩ = some (.bool false) ∧ W.cell? ⟨qr, 1, none⟩ = some (.bool true) :=
  ⟨h.bx.two.1, h.bx.two.2, h.by_.two.1, h.by_.two.2, h.to.cell (j := 1) (by decide), h.to.cell (j := 2) (by decide), h.re.cell (j := 0) (by decide), h.re.cell (j := 1) (by decide)⟩
theorem k17_reach (w W : World) (h : (kG w.heap.size).At W W.heap.size) (b : Nat) (hb : Bk W b 3 #[.int .i64 2]) : Calls Try.prog 13 #[.agg #[.slice (some ⟨w.heap.size + 1 + 1, 0, none⟩) 3 3, .slice (some ⟨w.heap.size + 1 + 1 + 1, 0, none⟩) 1 1], .slice (some ⟨b, 0, none⟩) 1 1] W fun e w' => ∃ q, e = .returned (.slice (some ⟨q, 0, none⟩) 3 3) ∧ Ow tV 4 w' 0 (.slice (some ⟨q, 0, none⟩) 3 3) [false, true, false] ∧ Below W.heap.size W w' := by
  refine (reach_c W (kG w.heap.size) h (kG_small _) (some ⟨b, 0, none⟩) 1 [2] (hb.rd (f := iV) rfl hb.lt) (by simp)).mono ?_
  rintro e w' ⟨q, L, rfl, h1, h2, h3, h4⟩
  have hL : L = [false, true, false] := seen3 h2 h3 (by show _ ↔ Rch (kN w.heap.size) [2] _; rw [kRch2]; simp) (by show _ ↔ Rch (kN w.heap.size) [2] _; rw [kRch2]; simp) (by show _ ↔ Rch (kN w.heap.size) [2] _; rw [kRch2]; simp)
  subst hL
  exact ⟨q, rfl, h1.mono (Nat.zero_le _), h4⟩
theorem k17_twin (w W : World) (h : (kG w.heap.size).At W W.heap.size) : Calls Try.prog 23 #[.agg #[.slice (some ⟨w.heap.size + 1 + 1, 0, none⟩) 3 3, .slice (some ⟨w.heap.size + 1 + 1 + 1, 0, none⟩) 1 1]] W fun e w' => ∃ g' : Gv, e = .returned g'.v ∧ g'.At w' w'.heap.size ∧ g'.Small ∧ sameG g' (kG w.heap.size) = true ∧ Below W.heap.size W w' := by
  refine (twin_g W (kG w.heap.size) h (kG_small _)).mono ?_
  rintro e w' ⟨g', rfl, h1, h2, h3, h4, h5⟩
  have r1 := NOwn.rows h1
  have r2 := ROwn.rows h2
  have hl : g'.n.length = 3 := by
    have := congrArg List.length h3
    rw [List.length_map, List.length_map] at this
    exact this
  have hr1 : g'.r.length = 1 := by rw [h4]; rfl
  refine ⟨g', rfl, ⟨r1.1, r2.1, r1.2.2, r2.2.2⟩, ⟨by omega, by omega, fun x hx => ?_⟩, ?_, h5⟩
  · have : x.m ∈ g'.n.map Nv.m := List.mem_map.2 ⟨x, hx, rfl⟩
    rw [h3] at this
    obtain ⟨y, hy, e⟩ := List.mem_map.1 this
    have := (kG_small w.heap.size).2.2 y hy
    unfold Nv.m at e
    injection e with e1 e2
    rw [← e1, ← e2]
    exact this
  · unfold sameG
    rw [sameR_iff.2 h4, sameNs_iff.2 h3]; rfl
theorem of_retK {P : Program} {f : FuncId} {args : Array Value} {v : Value} {w : World} (h : Calls P f args w (RetP v w)) : Calls P f args w fun e w2 => ∃ u, e = .returned u ∧ Below w.heap.size w w2 ∧ IsV v u w2 :=
  h.mono fun _ _ h => ⟨_, h.1, h.2, rfl⟩
def kA (w : World) : Value := .agg #[.slice (some ⟨w.heap.size + 1 + 1, 0, none⟩) 3 3, .slice (some ⟨w.heap.size + 1 + 1 + 1, 0, none⟩) 1 1]
def LenV (n : Nat) (v : Value) (_ : World) : Prop := ∃ A c, v = .slice A n c
theorem LenV.mono {n : Nat} {v : Value} {a b : World} (h : LenV n v a) (_ : Below a.heap.size a b) : LenV n v b := h
def TwV (w : World) (v : Value) (W : World) : Prop := ∃ g : Gv, v = .agg #[g.vn, g.vr] ∧ g.At W W.heap.size ∧ g.Small ∧ sameG g (kG w.heap.size) = true
theorem TwV.mono {w : World} {v : Value} {a b : World} (h : TwV w v a) (hb : Below a.heap.size a b) : TwV w v b := by
  obtain ⟨g, e, h1, h2⟩ := h
  exact ⟨g, e, h1.up hb, h2⟩
theorem k17_ck (w W : World) (h : (kG w.heap.size).At W W.heap.size) : Calls Try.prog 11 #[kA w] W (RetP (.int .i64 0) W) := by
  have k := check_c W (kG w.heap.size) h (kG_small _)
  rw [kG_ck] at k
  exact k
theorem k17_wo (w W : World) (h : (kG w.heap.size).At W W.heap.size) : Calls Try.prog 19 #[kA w] W (RetP (.int .i64 5) W) := by
  have k := words_c W (kG w.heap.size) h (kG_small _)
  rw [show wordsL (kG w.heap.size).n = 5 from kG_words _] at k
  exact k
theorem k17_na (w W : World) (h : (kG w.heap.size).At W W.heap.size) : Calls Try.prog 21 #[kA w] W fun e w2 => ∃ u, e = .returned u ∧ Below W.heap.size W w2 ∧ LenV 1 u w2 := by
  refine (named_g W (kG w.heap.size) h (kG_small _)).mono ?_
  rintro e w' ⟨v, rfl, ho, hb⟩
  obtain ⟨A, c, rfl, _⟩ := ho.form
  exact ⟨_, rfl, hb, A, c, rfl⟩
theorem k17_tw (w W : World) (h : (kG w.heap.size).At W W.heap.size) : Calls Try.prog 23 #[kA w] W fun e w2 => ∃ u, e = .returned u ∧ Below W.heap.size W w2 ∧ TwV w u w2 := by
  refine (k17_twin w W h).mono ?_
  rintro e w' ⟨g, rfl, h1, h2, h3, hb⟩
  exact ⟨_, rfl, hb, g, rfl, h1, h2, h3⟩
theorem k17_e1 (w W : World) (h : (kG w.heap.size).At W W.heap.size) {v : Value} (hv : TwV w v W) : Calls Try.prog 24 #[v, kA w] W (RetP (.bool true) W) := by
  obtain ⟨g, rfl, h1, h2, h3⟩ := hv
  have k := equalG_c W g (kG w.heap.size) h1 h h2
  rw [h3] at k
  exact k
theorem k17_e2 (w W : World) {b2 q qr : Nat} {t : Gv} {M : Nat} (h : KS w W b2 q qr t M) (hs : t.Small) (hl : t.n.length = 2) (hM : M = t.r.length) : Calls Try.prog 24 #[.agg #[.slice t.A 2 t.c, .slice t.A2 M t.c2], kA w] W (RetP (.bool false) W) := by
  have k := equalG_c W t (kG w.heap.size) h.ta h.ga hs
  have e : sameG t (kG w.heap.size) = false := by
    unfold sameG
    have : sameNs t.n (kN w.heap.size) = false := by
      rw [sameNs_no]
      intro e
      have := congrArg List.length e
      rw [List.length_map, List.length_map, hl] at this
      cases this
    show (_ && sameNs t.n (kN w.heap.size)) = false
    rw [this, Bool.and_false]
  rw [e] at k
  unfold Gv.v Gv.vn Gv.vr at k
  rw [hl, ← hM] at k
  exact k
theorem k17_r (Q : Exit → Act → World → Prop) (a0 : Act) (w : World) (w0 : World) (b2 q qr M : Nat) (t : Gv) (hs : Hid (KS w0 w b2 q qr t M)) (ht : Hid (t.Small ∧ t.n.length = 2 ∧ M = t.r.length)) (hsz : a0.tmps.size = 88) (sl1 : a0.tmps.getD 1 undef = .pointer (some ⟨w0.heap.size + 1 + 1 + 1 + 1, 0, none⟩)) (sl2 : a0.tmps.getD 2 undef = .pointer (some ⟨b2, 0, none⟩)) (sl3 : a0.tmps.getD 3 undef = .slice (some ⟨q, 0, none⟩) 3 3) (sl4 : a0.tmps.getD 4 undef = .slice (some ⟨qr, 0, none⟩) 3 3)
    (fin : ∀ (vals : Nat → Value) (w1 : World), Below w.heap.size w w1 → (IsV (.bool true)) (vals 65) w1 → Q .normal (putD vals [23, 24, 25, 26, 27, 28, 29, 30, 31, 32, 33, 34, 35, 36, 37, 38, 39, 40, 41, 42, 43, 44, 45, 46, 47, 48, 49, 50, 51, 52, 53, 54, 55, 56, 57, 58, 59, 60, 61, 62, 63, 64, 65, 66, 67, 68, 69, 70, 71, 72, 73, 74, 75, 76, 77, 78, 79, 80, 81, 82, 83, 84, 85, 86, 87, 0] 0 a0) w1) :
    (Code.region 4 (regIn Try.f8 4) true).wp Try.prog Q a0 w := by
  refine region_by (G := fun w w1 => Below w.heap.size w w1) [IsV (kA w0),
    IsV (.int .i64 0),
    IsV (.bool true),
    IsV (.bool true),
    IsV (kA w0),
    IsV (.int .i64 5),
    IsV (.bool true),
    IsV (.bool true),
    IsV (.bool true),
    IsV (.pointer (some ⟨b2, 0, none⟩)),
    IsV (.slice t.A 2 t.c),
    IsV (.int .i64 2),
    IsV (.bool true),
    IsV (.bool true),
    IsV (.bool true),
    IsV (.slice (some ⟨q, 0, none⟩) 3 3),
    IsV (.int .i64 3),
    IsV (.bool true),
    IsV (.bool true),
    IsV (.bool true),
    IsV (.slice (some ⟨q, 0, none⟩) 3 3),
    IsV (.pointer (some ⟨q, 2, none⟩)),
    IsV (.int .i64 0),
    IsV (.bool true),
    IsV (.bool true),
    IsV (.bool true),
    IsV (.slice (some ⟨q, 0, none⟩) 3 3),
    IsV (.pointer (some ⟨q, 1, none⟩)),
    IsV (.int .i64 2),
    IsV (.bool true),
    IsV (.bool true),
    IsV (.bool true),
    IsV (.slice (some ⟨qr, 0, none⟩) 3 3),
    IsV (.int .i64 3),
    IsV (.bool true),
    IsV (.bool true),
    IsV (.bool true),
    IsV (.slice (some ⟨qr, 0, none⟩) 3 3),
    IsV (.pointer (some ⟨qr, 1, none⟩)),
    IsV (.bool true),
    IsV (.bool true),
    IsV (.bool true),
    IsV (.slice (some ⟨qr, 0, none⟩) 3 3),
    IsV (.pointer (some ⟨qr, 0, none⟩)),
    IsV (.bool false),
    IsV (.bool true),
    IsV (.bool true),
    IsV (.bool true),
    IsV (kA w0),
    LenV 1,
    IsV (.int .i64 1),
    IsV (.bool true),
    IsV (.bool true),
    IsV (.bool true),
    IsV (kA w0),
    TwV w0,
    IsV (kA w0),
    IsV (.bool true),
    IsV (.bool true),
    IsV (.bool true),
    IsV (.agg #[.slice t.A 2 t.c, .slice t.A2 M t.c2]),
    IsV (kA w0),
    IsV (.bool false),
    IsV (.bool true),
    IsV (.bool true),
    IsV (.bool true)]
    [23, 24, 25, 26, 27, 28, 29, 30, 31, 32, 33, 34, 35, 36, 37, 38, 39, 40, 41, 42, 43, 44, 45, 46, 47, 48, 49, 50, 51, 52, 53, 54, 55, 56, 57, 58, 59, 60, 61, 62, 63, 64, 65, 66, 67, 68, 69, 70, 71, 72, 73, 74, 75, 76, 77, 78, 79, 80, 81, 82, 83, 84, 85, 86, 87, 0] (by kernel_rfl) (Gw.drew _) Gw.trans (by rw [hsz]; kernel_rfl) (by kernel_rfl) ?_ ?_ ?_
  · intro f hf
    simp only [List.mem_cons, List.not_mem_nil, or_false] at hf
    rcases hf with rfl | rfl | rfl | rfl | rfl | rfl | rfl | rfl | rfl | rfl | rfl | rfl | rfl | rfl | rfl | rfl | rfl | rfl | rfl | rfl | rfl | rfl | rfl | rfl | rfl | rfl | rfl | rfl | rfl | rfl | rfl | rfl | rfl | rfl | rfl | rfl | rfl | rfl | rfl | rfl | rfl | rfl | rfl | rfl | rfl | rfl | rfl | rfl | rfl | rfl | rfl | rfl | rfl | rfl | rfl | rfl | rfl | rfl | rfl | rfl | rfl | rfl | rfl | rfl | rfl | rfl <;> intro v a b h g <;> first | exact IsV.mono h | exact LenV.mono h g | exact TwV.mono h g
  · refine ⟨?_, ?_, ?_, ?_, ?_, ?_, ?_, ?_, ?_, ?_, ?_, ?_, ?_, ?_, ?_, ?_, ?_, ?_, ?_, ?_, ?_, ?_, ?_, ?_, ?_, ?_, ?_, ?_, ?_, ?_, ?_, ?_, ?_, ?_, ?_, ?_, ?_, ?_, ?_, ?_, ?_, ?_, ?_, ?_, ?_, ?_, ?_, ?_, ?_, ?_, ?_, ?_, ?_, ?_, ?_, ?_, ?_, ?_, ?_, ?_, ?_, ?_, ?_, ?_, ?_, ?_, trivial⟩
    · refine owes_v (Go.Op.load 25 (Go.Operand.tmp 1)) 25 [] (by kernel_rfl) (by kernel_rfl) (by kernel_rfl) rfl fun vals w1 ρ hG hF hρ hcst hfun => ?_
      have e1 : ρ (.tmp 1) = .pointer (some ⟨w0.heap.size + 1 + 1 + 1 + 1, 0, none⟩) := ((hρ 1).trans (slotO [] (by kernel_rfl))).trans sl1
      obtain ⟨d0, d1, d2, d3, d4, d5, d6, d7⟩ := (hs.out.below hG).cells
      unfold kA
      clear hρ hF hcst hfun sl1 sl2 sl3 sl4 fin
      exact opv_val (by go_simp <;> rfl) ⟨gw_self _, rfl⟩
    · refine owes_v (Go.Op.call { callee := Go.Callee.value (Go.Operand.func 11), args := #[Go.Operand.tmp 23], argTypes := #[25] }) 34 [0] (by kernel_rfl) (by kernel_rfl) (by kernel_rfl) rfl fun vals w1 ρ hG hF hρ hcst hfun => ?_
      have e23 : ρ (.tmp 23) = kA w0 := ((hρ 23).trans (slotJ [0] (by rw [hsz]; decide) (by kernel_rfl))).trans (hF 0 (by decide))
      clear hρ hF hcst sl1 sl2 sl3 sl4 fin
      exact opv_enter (by go_simp <;> rfl) (of_retK (k17_ck w0 w1 (hs.out.below hG).ga))
    · refine owes_v (Go.Op.binOp Go.BinOp.eql 3 (Go.Operand.tmp 24) (Go.Operand.const (Go.Value.int Go.IntKind.i64 0)) 3) 4 [1] (by kernel_rfl) (by kernel_rfl) (by kernel_rfl) rfl fun vals w1 ρ hG hF hρ hcst hfun => ?_
      have e24 : ρ (.tmp 24) = .int .i64 0 := ((hρ 24).trans (slotJ [1] (by rw [hsz]; decide) (by kernel_rfl))).trans (hF 1 (by decide))
      clear hρ hF hfun sl1 sl2 sl3 sl4 fin
      exact opv_val (by go_simp <;> rfl) ⟨gw_self _, rfl⟩
    · exact owes_mvj 2 25 (by kernel_rfl) (by kernel_rfl) (by kernel_rfl) (by kernel_rfl) (by rw [hsz]; decide) (fun v w h => h)
    · refine owes_vt 3 true (Go.Op.load 25 (Go.Operand.tmp 1)) 25 [] (by kernel_rfl) (by kernel_rfl) (by kernel_rfl) (fun _ _ h => h) (by rw [hsz]; kernel_rfl) (by kernel_rfl) rfl fun vals w1 ρ hG hF hρ hcst hfun => ?_
      have e1 : ρ (.tmp 1) = .pointer (some ⟨w0.heap.size + 1 + 1 + 1 + 1, 0, none⟩) := ((hρ 1).trans (slotO [] (by kernel_rfl))).trans sl1
      obtain ⟨d0, d1, d2, d3, d4, d5, d6, d7⟩ := (hs.out.below hG).cells
      unfold kA
      clear hρ hF hcst hfun sl1 sl2 sl3 sl4 fin
      exact opv_val (by go_simp <;> rfl) ⟨gw_self _, rfl⟩
    · refine owes_vt 3 true (Go.Op.call { callee := Go.Callee.value (Go.Operand.func 19), args := #[Go.Operand.tmp 27], argTypes := #[25] }) 3 [4] (by kernel_rfl) (by kernel_rfl) (by kernel_rfl) (fun _ _ h => h) (by rw [hsz]; kernel_rfl) (by kernel_rfl) rfl fun vals w1 ρ hG hF hρ hcst hfun => ?_
      have e27 : ρ (.tmp 27) = kA w0 := ((hρ 27).trans (slotJ [4] (by rw [hsz]; decide) (by kernel_rfl))).trans (hF 4 (by decide))
      clear hρ hF hcst sl1 sl2 sl3 sl4 fin
      exact opv_enter (by go_simp <;> rfl) (of_retK (k17_wo w0 w1 (hs.out.below hG).ga))
    · refine owes_vt 3 true (Go.Op.binOp Go.BinOp.eql 3 (Go.Operand.tmp 28) (Go.Operand.const (Go.Value.int Go.IntKind.i64 5)) 3) 4 [5] (by kernel_rfl) (by kernel_rfl) (by kernel_rfl) (fun _ _ h => h) (by rw [hsz]; kernel_rfl) (by kernel_rfl) rfl fun vals w1 ρ hG hF hρ hcst hfun => ?_
      have e28 : ρ (.tmp 28) = .int .i64 5 := ((hρ 28).trans (slotJ [5] (by rw [hsz]; decide) (by kernel_rfl))).trans (hF 5 (by decide))
      clear hρ hF hfun sl1 sl2 sl3 sl4 fin
      exact opv_val (by go_simp <;> rfl) ⟨gw_self _, rfl⟩
    · refine owes_v (Go.Op.pick (Go.Operand.tmp 26) (Go.Operand.tmp 29) (Go.Operand.const (Go.Value.bool false))) 4 [3, 6] (by kernel_rfl) (by kernel_rfl) (by kernel_rfl) rfl fun vals w1 ρ hG hF hρ hcst hfun => ?_
      have e26 : ρ (.tmp 26) = .bool true := ((hρ 26).trans (slotJ [3, 6] (by rw [hsz]; decide) (by kernel_rfl))).trans (hF 3 (by decide))
      have e29 : ρ (.tmp 29) = .bool true := ((hρ 29).trans (slotJ [3, 6] (by rw [hsz]; decide) (by kernel_rfl))).trans (hF 6 (by decide))
      clear hρ hF hfun sl1 sl2 sl3 sl4 fin
      exact opv_val (by go_simp <;> rfl) ⟨gw_self _, rfl⟩
    · exact owes_mvj 7 30 (by kernel_rfl) (by kernel_rfl) (by kernel_rfl) (by kernel_rfl) (by rw [hsz]; decide) (fun v w h => h)
    · refine owes_vt 8 true (Go.Op.fieldAddr 25 (Go.Operand.tmp 2) 0) 0 [] (by kernel_rfl) (by kernel_rfl) (by kernel_rfl) (fun _ _ h => h) (by rw [hsz]; kernel_rfl) (by kernel_rfl) rfl fun vals w1 ρ hG hF hρ hcst hfun => ?_
      have e2 : ρ (.tmp 2) = .pointer (some ⟨b2, 0, none⟩) := ((hρ 2).trans (slotO [] (by kernel_rfl))).trans sl2
      clear hρ hF hcst hfun sl1 sl2 sl3 sl4 fin
      exact opv_val (by go_simp <;> rfl) ⟨gw_self _, rfl⟩
    · refine owes_vt 8 true (Go.Op.load 22 (Go.Operand.tmp 32)) 22 [9] (by kernel_rfl) (by kernel_rfl) (by kernel_rfl) (fun _ _ h => h) (by rw [hsz]; kernel_rfl) (by kernel_rfl) rfl fun vals w1 ρ hG hF hρ hcst hfun => ?_
      have e32 : ρ (.tmp 32) = .pointer (some ⟨b2, 0, none⟩) := ((hρ 32).trans (slotJ [9] (by rw [hsz]; decide) (by kernel_rfl))).trans (hF 9 (by decide))
      obtain ⟨d0, d1, d2, d3, d4, d5, d6, d7⟩ := (hs.out.below hG).cells
      clear hρ hF hcst hfun sl1 sl2 sl3 sl4 fin
      exact opv_val (by go_simp <;> rfl) ⟨gw_self _, rfl⟩
    · refine owes_vt 8 true (Go.Op.call { callee := Go.Callee.builtin Go.Builtin.len, args := #[Go.Operand.tmp 33], argTypes := #[22] }) 3 [10] (by kernel_rfl) (by kernel_rfl) (by kernel_rfl) (fun _ _ h => h) (by rw [hsz]; kernel_rfl) (by kernel_rfl) rfl fun vals w1 ρ hG hF hρ hcst hfun => ?_
      have e33 : ρ (.tmp 33) = .slice t.A 2 t.c := ((hρ 33).trans (slotJ [10] (by rw [hsz]; decide) (by kernel_rfl))).trans (hF 10 (by decide))
      clear hρ hF hcst hfun sl1 sl2 sl3 sl4 fin
      exact opv_val (by go_simp <;> rfl) ⟨gw_self _, rfl⟩
    · refine owes_vt 8 true (Go.Op.binOp Go.BinOp.eql 3 (Go.Operand.tmp 34) (Go.Operand.const (Go.Value.int Go.IntKind.i64 2)) 3) 4 [11] (by kernel_rfl) (by kernel_rfl) (by kernel_rfl) (fun _ _ h => h) (by rw [hsz]; kernel_rfl) (by kernel_rfl) rfl fun vals w1 ρ hG hF hρ hcst hfun => ?_
      have e34 : ρ (.tmp 34) = .int .i64 2 := ((hρ 34).trans (slotJ [11] (by rw [hsz]; decide) (by kernel_rfl))).trans (hF 11 (by decide))
      clear hρ hF hfun sl1 sl2 sl3 sl4 fin
      exact opv_val (by go_simp <;> rfl) ⟨gw_self _, rfl⟩
    · refine owes_v (Go.Op.pick (Go.Operand.tmp 31) (Go.Operand.tmp 35) (Go.Operand.const (Go.Value.bool false))) 4 [8, 12] (by kernel_rfl) (by kernel_rfl) (by kernel_rfl) rfl fun vals w1 ρ hG hF hρ hcst hfun => ?_
      have e31 : ρ (.tmp 31) = .bool true := ((hρ 31).trans (slotJ [8, 12] (by rw [hsz]; decide) (by kernel_rfl))).trans (hF 8 (by decide))
      have e35 : ρ (.tmp 35) = .bool true := ((hρ 35).trans (slotJ [8, 12] (by rw [hsz]; decide) (by kernel_rfl))).trans (hF 12 (by decide))
      clear hρ hF hfun sl1 sl2 sl3 sl4 fin
      exact opv_val (by go_simp <;> rfl) ⟨gw_self _, rfl⟩
    · exact owes_mvj 13 36 (by kernel_rfl) (by kernel_rfl) (by kernel_rfl) (by kernel_rfl) (by rw [hsz]; decide) (fun v w h => h)
    · refine owes_vt 14 true (Go.Op.move (Go.Operand.tmp 3)) 26 [] (by kernel_rfl) (by kernel_rfl) (by kernel_rfl) (fun _ _ h => h) (by rw [hsz]; kernel_rfl) (by kernel_rfl) rfl fun vals w1 ρ hG hF hρ hcst hfun => ?_
      have e3 : ρ (.tmp 3) = .slice (some ⟨q, 0, none⟩) 3 3 := ((hρ 3).trans (slotO [] (by kernel_rfl))).trans sl3
      clear hρ hF hcst hfun sl1 sl2 sl3 sl4 fin
      exact opv_val (by go_simp <;> rfl) ⟨gw_self _, rfl⟩
    · refine owes_vt 14 true (Go.Op.call { callee := Go.Callee.builtin Go.Builtin.len, args := #[Go.Operand.tmp 38], argTypes := #[26] }) 3 [15] (by kernel_rfl) (by kernel_rfl) (by kernel_rfl) (fun _ _ h => h) (by rw [hsz]; kernel_rfl) (by kernel_rfl) rfl fun vals w1 ρ hG hF hρ hcst hfun => ?_
      have e38 : ρ (.tmp 38) = .slice (some ⟨q, 0, none⟩) 3 3 := ((hρ 38).trans (slotJ [15] (by rw [hsz]; decide) (by kernel_rfl))).trans (hF 15 (by decide))
      clear hρ hF hcst hfun sl1 sl2 sl3 sl4 fin
      exact opv_val (by go_simp <;> rfl) ⟨gw_self _, rfl⟩
    · refine owes_vt 14 true (Go.Op.binOp Go.BinOp.eql 3 (Go.Operand.tmp 39) (Go.Operand.const (Go.Value.int Go.IntKind.i64 3)) 3) 4 [16] (by kernel_rfl) (by kernel_rfl) (by kernel_rfl) (fun _ _ h => h) (by rw [hsz]; kernel_rfl) (by kernel_rfl) rfl fun vals w1 ρ hG hF hρ hcst hfun => ?_
      have e39 : ρ (.tmp 39) = .int .i64 3 := ((hρ 39).trans (slotJ [16] (by rw [hsz]; decide) (by kernel_rfl))).trans (hF 16 (by decide))
      clear hρ hF hfun sl1 sl2 sl3 sl4 fin
      exact opv_val (by go_simp <;> rfl) ⟨gw_self _, rfl⟩
    · refine owes_v (Go.Op.pick (Go.Operand.tmp 37) (Go.Operand.tmp 40) (Go.Operand.const (Go.Value.bool false))) 4 [14, 17] (by kernel_rfl) (by kernel_rfl) (by kernel_rfl) rfl fun vals w1 ρ hG hF hρ hcst hfun => ?_
      have e37 : ρ (.tmp 37) = .bool true := ((hρ 37).trans (slotJ [14, 17] (by rw [hsz]; decide) (by kernel_rfl))).trans (hF 14 (by decide))
      have e40 : ρ (.tmp 40) = .bool true := ((hρ 40).trans (slotJ [14, 17] (by rw [hsz]; decide) (by kernel_rfl))).trans (hF 17 (by decide))
      clear hρ hF hfun sl1 sl2 sl3 sl4 fin
      exact opv_val (by go_simp <;> rfl) ⟨gw_self _, rfl⟩
    · exact owes_mvj 18 41 (by kernel_rfl) (by kernel_rfl) (by kernel_rfl) (by kernel_rfl) (by rw [hsz]; decide) (fun v w h => h)
    · refine owes_vt 19 true (Go.Op.move (Go.Operand.tmp 3)) 26 [] (by kernel_rfl) (by kernel_rfl) (by kernel_rfl) (fun _ _ h => h) (by rw [hsz]; kernel_rfl) (by kernel_rfl) rfl fun vals w1 ρ hG hF hρ hcst hfun => ?_
      have e3 : ρ (.tmp 3) = .slice (some ⟨q, 0, none⟩) 3 3 := ((hρ 3).trans (slotO [] (by kernel_rfl))).trans sl3
      clear hρ hF hcst hfun sl1 sl2 sl3 sl4 fin
      exact opv_val (by go_simp <;> rfl) ⟨gw_self _, rfl⟩
    · refine owes_vt 19 true (Go.Op.indexAddr 26 (Go.Operand.tmp 43) (Go.Operand.const (Go.Value.int Go.IntKind.i64 2))) 0 [20] (by kernel_rfl) (by kernel_rfl) (by kernel_rfl) (fun _ _ h => h) (by rw [hsz]; kernel_rfl) (by kernel_rfl) rfl fun vals w1 ρ hG hF hρ hcst hfun => ?_
      have e43 : ρ (.tmp 43) = .slice (some ⟨q, 0, none⟩) 3 3 := ((hρ 43).trans (slotJ [20] (by rw [hsz]; decide) (by kernel_rfl))).trans (hF 20 (by decide))
      clear hρ hF hfun sl1 sl2 sl3 sl4 fin
      exact opv_val (by go_simp <;> rfl) ⟨gw_self _, rfl⟩
    · refine owes_vt 19 true (Go.Op.load 3 (Go.Operand.tmp 44)) 3 [21] (by kernel_rfl) (by kernel_rfl) (by kernel_rfl) (fun _ _ h => h) (by rw [hsz]; kernel_rfl) (by kernel_rfl) rfl fun vals w1 ρ hG hF hρ hcst hfun => ?_
      have e44 : ρ (.tmp 44) = .pointer (some ⟨q, 2, none⟩) := ((hρ 44).trans (slotJ [21] (by rw [hsz]; decide) (by kernel_rfl))).trans (hF 21 (by decide))
      obtain ⟨d0, d1, d2, d3, d4, d5, d6, d7⟩ := (hs.out.below hG).cells
      clear hρ hF hcst hfun sl1 sl2 sl3 sl4 fin
      exact opv_val (by go_simp <;> rfl) ⟨gw_self _, rfl⟩
    · refine owes_vt 19 true (Go.Op.binOp Go.BinOp.eql 3 (Go.Operand.tmp 45) (Go.Operand.const (Go.Value.int Go.IntKind.i64 0)) 3) 4 [22] (by kernel_rfl) (by kernel_rfl) (by kernel_rfl) (fun _ _ h => h) (by rw [hsz]; kernel_rfl) (by kernel_rfl) rfl fun vals w1 ρ hG hF hρ hcst hfun => ?_
      have e45 : ρ (.tmp 45) = .int .i64 0 := ((hρ 45).trans (slotJ [22] (by rw [hsz]; decide) (by kernel_rfl))).trans (hF 22 (by decide))
      clear hρ hF hfun sl1 sl2 sl3 sl4 fin
      exact opv_val (by go_simp <;> rfl) ⟨gw_self _, rfl⟩
    · refine owes_v (Go.Op.pick (Go.Operand.tmp 42) (Go.Operand.tmp 46) (Go.Operand.const (Go.Value.bool false))) 4 [19, 23] (by kernel_rfl) (by kernel_rfl) (by kernel_rfl) rfl fun vals w1 ρ hG hF hρ hcst hfun => ?_
      have e42 : ρ (.tmp 42) = .bool true := ((hρ 42).trans (slotJ [19, 23] (by rw [hsz]; decide) (by kernel_rfl))).trans (hF 19 (by decide))
      have e46 : ρ (.tmp 46) = .bool true := ((hρ 46).trans (slotJ [19, 23] (by rw [hsz]; decide) (by kernel_rfl))).trans (hF 23 (by decide))
      clear hρ hF hfun sl1 sl2 sl3 sl4 fin
      exact opv_val (by go_simp <;> rfl) ⟨gw_self _, rfl⟩
    · exact owes_mvj 24 47 (by kernel_rfl) (by kernel_rfl) (by kernel_rfl) (by kernel_rfl) (by rw [hsz]; decide) (fun v w h => h)
    · refine owes_vt 25 true (Go.Op.move (Go.Operand.tmp 3)) 26 [] (by kernel_rfl) (by kernel_rfl) (by kernel_rfl) (fun _ _ h => h) (by rw [hsz]; kernel_rfl) (by kernel_rfl) rfl fun vals w1 ρ hG hF hρ hcst hfun => ?_
      have e3 : ρ (.tmp 3) = .slice (some ⟨q, 0, none⟩) 3 3 := ((hρ 3).trans (slotO [] (by kernel_rfl))).trans sl3
      clear hρ hF hcst hfun sl1 sl2 sl3 sl4 fin
      exact opv_val (by go_simp <;> rfl) ⟨gw_self _, rfl⟩
    · refine owes_vt 25 true (Go.Op.indexAddr 26 (Go.Operand.tmp 49) (Go.Operand.const (Go.Value.int Go.IntKind.i64 1))) 0 [26] (by kernel_rfl) (by kernel_rfl) (by kernel_rfl) (fun _ _ h => h) (by rw [hsz]; kernel_rfl) (by kernel_rfl) rfl fun vals w1 ρ hG hF hρ hcst hfun => ?_
      have e49 : ρ (.tmp 49) = .slice (some ⟨q, 0, none⟩) 3 3 := ((hρ 49).trans (slotJ [26] (by rw [hsz]; decide) (by kernel_rfl))).trans (hF 26 (by decide))
      clear hρ hF hfun sl1 sl2 sl3 sl4 fin
      exact opv_val (by go_simp <;> rfl) ⟨gw_self _, rfl⟩
    · refine owes_vt 25 true (Go.Op.load 3 (Go.Operand.tmp 50)) 3 [27] (by kernel_rfl) (by kernel_rfl) (by kernel_rfl) (fun _ _ h => h) (by rw [hsz]; kernel_rfl) (by kernel_rfl) rfl fun vals w1 ρ hG hF hρ hcst hfun => ?_
      have e50 : ρ (.tmp 50) = .pointer (some ⟨q, 1, none⟩) := ((hρ 50).trans (slotJ [27] (by rw [hsz]; decide) (by kernel_rfl))).trans (hF 27 (by decide))
      obtain ⟨d0, d1, d2, d3, d4, d5, d6, d7⟩ := (hs.out.below hG).cells
      clear hρ hF hcst hfun sl1 sl2 sl3 sl4 fin
      exact opv_val (by go_simp <;> rfl) ⟨gw_self _, rfl⟩
    · refine owes_vt 25 true (Go.Op.binOp Go.BinOp.eql 3 (Go.Operand.tmp 51) (Go.Operand.const (Go.Value.int Go.IntKind.i64 2)) 3) 4 [28] (by kernel_rfl) (by kernel_rfl) (by kernel_rfl) (fun _ _ h => h) (by rw [hsz]; kernel_rfl) (by kernel_rfl) rfl fun vals w1 ρ hG hF hρ hcst hfun => ?_
      have e51 : ρ (.tmp 51) = .int .i64 2 := ((hρ 51).trans (slotJ [28] (by rw [hsz]; decide) (by kernel_rfl))).trans (hF 28 (by decide))
      clear hρ hF hfun sl1 sl2 sl3 sl4 fin
      exact opv_val (by go_simp <;> rfl) ⟨gw_self _, rfl⟩
    · refine owes_v (Go.Op.pick (Go.Operand.tmp 48) (Go.Operand.tmp 52) (Go.Operand.const (Go.Value.bool false))) 4 [25, 29] (by kernel_rfl) (by kernel_rfl) (by kernel_rfl) rfl fun vals w1 ρ hG hF hρ hcst hfun => ?_
      have e48 : ρ (.tmp 48) = .bool true := ((hρ 48).trans (slotJ [25, 29] (by rw [hsz]; decide) (by kernel_rfl))).trans (hF 25 (by decide))
      have e52 : ρ (.tmp 52) = .bool true := ((hρ 52).trans (slotJ [25, 29] (by rw [hsz]; decide) (by kernel_rfl))).trans (hF 29 (by decide))
      clear hρ hF hfun sl1 sl2 sl3 sl4 fin
      exact opv_val (by go_simp <;> rfl) ⟨gw_self _, rfl⟩
    · exact owes_mvj 30 53 (by kernel_rfl) (by kernel_rfl) (by kernel_rfl) (by kernel_rfl) (by rw [hsz]; decide) (fun v w h => h)
    · refine owes_vt 31 true (Go.Op.move (Go.Operand.tmp 4)) 37 [] (by kernel_rfl) (by kernel_rfl) (by kernel_rfl) (fun _ _ h => h) (by rw [hsz]; kernel_rfl) (by kernel_rfl) rfl fun vals w1 ρ hG hF hρ hcst hfun => ?_
      have e4 : ρ (.tmp 4) = .slice (some ⟨qr, 0, none⟩) 3 3 := ((hρ 4).trans (slotO [] (by kernel_rfl))).trans sl4
      clear hρ hF hcst hfun sl1 sl2 sl3 sl4 fin
      exact opv_val (by go_simp <;> rfl) ⟨gw_self _, rfl⟩
    · refine owes_vt 31 true (Go.Op.call { callee := Go.Callee.builtin Go.Builtin.len, args := #[Go.Operand.tmp 55], argTypes := #[37] }) 3 [32] (by kernel_rfl) (by kernel_rfl) (by kernel_rfl) (fun _ _ h => h) (by rw [hsz]; kernel_rfl) (by kernel_rfl) rfl fun vals w1 ρ hG hF hρ hcst hfun => ?_
      have e55 : ρ (.tmp 55) = .slice (some ⟨qr, 0, none⟩) 3 3 := ((hρ 55).trans (slotJ [32] (by rw [hsz]; decide) (by kernel_rfl))).trans (hF 32 (by decide))
      clear hρ hF hcst hfun sl1 sl2 sl3 sl4 fin
      exact opv_val (by go_simp <;> rfl) ⟨gw_self _, rfl⟩
    · refine owes_vt 31 true (Go.Op.binOp Go.BinOp.eql 3 (Go.Operand.tmp 56) (Go.Operand.const (Go.Value.int Go.IntKind.i64 3)) 3) 4 [33] (by kernel_rfl) (by kernel_rfl) (by kernel_rfl) (fun _ _ h => h) (by rw [hsz]; kernel_rfl) (by kernel_rfl) rfl fun vals w1 ρ hG hF hρ hcst hfun => ?_
      have e56 : ρ (.tmp 56) = .int .i64 3 := ((hρ 56).trans (slotJ [33] (by rw [hsz]; decide) (by kernel_rfl))).trans (hF 33 (by decide))
      clear hρ hF hfun sl1 sl2 sl3 sl4 fin
      exact opv_val (by go_simp <;> rfl) ⟨gw_self _, rfl⟩
    · refine owes_v (Go.Op.pick (Go.Operand.tmp 54) (Go.Operand.tmp 57) (Go.Operand.const (Go.Value.bool false))) 4 [31, 34] (by kernel_rfl) (by kernel_rfl) (by kernel_rfl) rfl fun vals w1 ρ hG hF hρ hcst hfun => ?_
      have e54 : ρ (.tmp 54) = .bool true := ((hρ 54).trans (slotJ [31, 34] (by rw [hsz]; decide) (by kernel_rfl))).trans (hF 31 (by decide))
      have e57 : ρ (.tmp 57) = .bool true := ((hρ 57).trans (slotJ [31, 34] (by rw [hsz]; decide) (by kernel_rfl))).trans (hF 34 (by decide))
      clear hρ hF hfun sl1 sl2 sl3 sl4 fin
      exact opv_val (by go_simp <;> rfl) ⟨gw_self _, rfl⟩
    · exact owes_mvj 35 58 (by kernel_rfl) (by kernel_rfl) (by kernel_rfl) (by kernel_rfl) (by rw [hsz]; decide) (fun v w h => h)
    · refine owes_vt 36 true (Go.Op.move (Go.Operand.tmp 4)) 37 [] (by kernel_rfl) (by kernel_rfl) (by kernel_rfl) (fun _ _ h => h) (by rw [hsz]; kernel_rfl) (by kernel_rfl) rfl fun vals w1 ρ hG hF hρ hcst hfun => ?_
      have e4 : ρ (.tmp 4) = .slice (some ⟨qr, 0, none⟩) 3 3 := ((hρ 4).trans (slotO [] (by kernel_rfl))).trans sl4
      clear hρ hF hcst hfun sl1 sl2 sl3 sl4 fin
      exact opv_val (by go_simp <;> rfl) ⟨gw_self _, rfl⟩
    · refine owes_vt 36 true (Go.Op.indexAddr 37 (Go.Operand.tmp 60) (Go.Operand.const (Go.Value.int Go.IntKind.i64 1))) 0 [37] (by kernel_rfl) (by kernel_rfl) (by kernel_rfl) (fun _ _ h => h) (by rw [hsz]; kernel_rfl) (by kernel_rfl) rfl fun vals w1 ρ hG hF hρ hcst hfun => ?_
      have e60 : ρ (.tmp 60) = .slice (some ⟨qr, 0, none⟩) 3 3 := ((hρ 60).trans (slotJ [37] (by rw [hsz]; decide) (by kernel_rfl))).trans (hF 37 (by decide))
      clear hρ hF hfun sl1 sl2 sl3 sl4 fin
      exact opv_val (by go_simp <;> rfl) ⟨gw_self _, rfl⟩
    · refine owes_vt 36 true (Go.Op.load 4 (Go.Operand.tmp 61)) 4 [38] (by kernel_rfl) (by kernel_rfl) (by kernel_rfl) (fun _ _ h => h) (by rw [hsz]; kernel_rfl) (by kernel_rfl) rfl fun vals w1 ρ hG hF hρ hcst hfun => ?_
      have e61 : ρ (.tmp 61) = .pointer (some ⟨qr, 1, none⟩) := ((hρ 61).trans (slotJ [38] (by rw [hsz]; decide) (by kernel_rfl))).trans (hF 38 (by decide))
      obtain ⟨d0, d1, d2, d3, d4, d5, d6, d7⟩ := (hs.out.below hG).cells
      clear hρ hF hcst hfun sl1 sl2 sl3 sl4 fin
      exact opv_val (by go_simp <;> rfl) ⟨gw_self _, rfl⟩
    · refine owes_v (Go.Op.pick (Go.Operand.tmp 59) (Go.Operand.tmp 62) (Go.Operand.const (Go.Value.bool false))) 4 [36, 39] (by kernel_rfl) (by kernel_rfl) (by kernel_rfl) rfl fun vals w1 ρ hG hF hρ hcst hfun => ?_
      have e59 : ρ (.tmp 59) = .bool true := ((hρ 59).trans (slotJ [36, 39] (by rw [hsz]; decide) (by kernel_rfl))).trans (hF 36 (by decide))
      have e62 : ρ (.tmp 62) = .bool true := ((hρ 62).trans (slotJ [36, 39] (by rw [hsz]; decide) (by kernel_rfl))).trans (hF 39 (by decide))
      clear hρ hF hfun sl1 sl2 sl3 sl4 fin
      exact opv_val (by go_simp <;> rfl) ⟨gw_self _, rfl⟩
    · exact owes_mvj 40 63 (by kernel_rfl) (by kernel_rfl) (by kernel_rfl) (by kernel_rfl) (by rw [hsz]; decide) (fun v w h => h)
    · refine owes_vt 41 true (Go.Op.move (Go.Operand.tmp 4)) 37 [] (by kernel_rfl) (by kernel_rfl) (by kernel_rfl) (fun _ _ h => h) (by rw [hsz]; kernel_rfl) (by kernel_rfl) rfl fun vals w1 ρ hG hF hρ hcst hfun => ?_
      have e4 : ρ (.tmp 4) = .slice (some ⟨qr, 0, none⟩) 3 3 := ((hρ 4).trans (slotO [] (by kernel_rfl))).trans sl4
      clear hρ hF hcst hfun sl1 sl2 sl3 sl4 fin
      exact opv_val (by go_simp <;> rfl) ⟨gw_self _, rfl⟩
    · refine owes_vt 41 true (Go.Op.indexAddr 37 (Go.Operand.tmp 65) (Go.Operand.const (Go.Value.int Go.IntKind.i64 0))) 0 [42] (by kernel_rfl) (by kernel_rfl) (by kernel_rfl) (fun _ _ h => h) (by rw [hsz]; kernel_rfl) (by kernel_rfl) rfl fun vals w1 ρ hG hF hρ hcst hfun => ?_
      have e65 : ρ (.tmp 65) = .slice (some ⟨qr, 0, none⟩) 3 3 := ((hρ 65).trans (slotJ [42] (by rw [hsz]; decide) (by kernel_rfl))).trans (hF 42 (by decide))
      clear hρ hF hfun sl1 sl2 sl3 sl4 fin
      exact opv_val (by go_simp <;> rfl) ⟨gw_self _, rfl⟩
    · refine owes_vt 41 true (Go.Op.load 4 (Go.Operand.tmp 66)) 4 [43] (by kernel_rfl) (by kernel_rfl) (by kernel_rfl) (fun _ _ h => h) (by rw [hsz]; kernel_rfl) (by kernel_rfl) rfl fun vals w1 ρ hG hF hρ hcst hfun => ?_
      have e66 : ρ (.tmp 66) = .pointer (some ⟨qr, 0, none⟩) := ((hρ 66).trans (slotJ [43] (by rw [hsz]; decide) (by kernel_rfl))).trans (hF 43 (by decide))
      obtain ⟨d0, d1, d2, d3, d4, d5, d6, d7⟩ := (hs.out.below hG).cells
      clear hρ hF hcst hfun sl1 sl2 sl3 sl4 fin
      exact opv_val (by go_simp <;> rfl) ⟨gw_self _, rfl⟩
    · refine owes_vt 41 true (Go.Op.unOp Go.UnOp.not 4 (Go.Operand.tmp 67)) 4 [44] (by kernel_rfl) (by kernel_rfl) (by kernel_rfl) (fun _ _ h => h) (by rw [hsz]; kernel_rfl) (by kernel_rfl) rfl fun vals w1 ρ hG hF hρ hcst hfun => ?_
      have e67 : ρ (.tmp 67) = .bool false := ((hρ 67).trans (slotJ [44] (by rw [hsz]; decide) (by kernel_rfl))).trans (hF 44 (by decide))
      clear hρ hF hcst hfun sl1 sl2 sl3 sl4 fin
      exact opv_val (by go_simp <;> rfl) ⟨gw_self _, rfl⟩
    · refine owes_v (Go.Op.pick (Go.Operand.tmp 64) (Go.Operand.tmp 68) (Go.Operand.const (Go.Value.bool false))) 4 [41, 45] (by kernel_rfl) (by kernel_rfl) (by kernel_rfl) rfl fun vals w1 ρ hG hF hρ hcst hfun => ?_
      have e64 : ρ (.tmp 64) = .bool true := ((hρ 64).trans (slotJ [41, 45] (by rw [hsz]; decide) (by kernel_rfl))).trans (hF 41 (by decide))
      have e68 : ρ (.tmp 68) = .bool true := ((hρ 68).trans (slotJ [41, 45] (by rw [hsz]; decide) (by kernel_rfl))).trans (hF 45 (by decide))
      clear hρ hF hfun sl1 sl2 sl3 sl4 fin
      exact opv_val (by go_simp <;> rfl) ⟨gw_self _, rfl⟩
    · exact owes_mvj 46 69 (by kernel_rfl) (by kernel_rfl) (by kernel_rfl) (by kernel_rfl) (by rw [hsz]; decide) (fun v w h => h)
    · refine owes_vt 47 true (Go.Op.load 25 (Go.Operand.tmp 1)) 25 [] (by kernel_rfl) (by kernel_rfl) (by kernel_rfl) (fun _ _ h => h) (by rw [hsz]; kernel_rfl) (by kernel_rfl) rfl fun vals w1 ρ hG hF hρ hcst hfun => ?_
      have e1 : ρ (.tmp 1) = .pointer (some ⟨w0.heap.size + 1 + 1 + 1 + 1, 0, none⟩) := ((hρ 1).trans (slotO [] (by kernel_rfl))).trans sl1
      obtain ⟨d0, d1, d2, d3, d4, d5, d6, d7⟩ := (hs.out.below hG).cells
      unfold kA
      clear hρ hF hcst hfun sl1 sl2 sl3 sl4 fin
      exact opv_val (by go_simp <;> rfl) ⟨gw_self _, rfl⟩
    · refine owes_vt 47 true (Go.Op.call { callee := Go.Callee.value (Go.Operand.func 21), args := #[Go.Operand.tmp 71], argTypes := #[25] }) 26 [48] (by kernel_rfl) (by kernel_rfl) (by kernel_rfl) (fun _ _ h => h) (by rw [hsz]; kernel_rfl) (by kernel_rfl) rfl fun vals w1 ρ hG hF hρ hcst hfun => ?_
      have e71 : ρ (.tmp 71) = kA w0 := ((hρ 71).trans (slotJ [48] (by rw [hsz]; decide) (by kernel_rfl))).trans (hF 48 (by decide))
      clear hρ hF hcst sl1 sl2 sl3 sl4 fin
      exact opv_enter (by go_simp <;> rfl) (k17_na w0 w1 (hs.out.below hG).ga)
    · refine owes_vt 47 true (Go.Op.call { callee := Go.Callee.builtin Go.Builtin.len, args := #[Go.Operand.tmp 72], argTypes := #[26] }) 3 [49] (by kernel_rfl) (by kernel_rfl) (by kernel_rfl) (fun _ _ h => h) (by rw [hsz]; kernel_rfl) (by kernel_rfl) rfl fun vals w1 ρ hG hF hρ hcst hfun => ?_
      have f72 : (LenV 1) (vals 49) w1 := hF 49 (by decide)
      have e72 : ρ (.tmp 72) = vals 49 := (hρ 72).trans (slotJ [49] (by rw [hsz]; decide) (by kernel_rfl))
      obtain ⟨XA, xc, hx72⟩ := f72
      rw [hx72] at e72
      clear hρ hF hcst hfun sl1 sl2 sl3 sl4 fin
      exact opv_val (by go_simp <;> rfl) ⟨gw_self _, rfl⟩
    · refine owes_vt 47 true (Go.Op.binOp Go.BinOp.eql 3 (Go.Operand.tmp 73) (Go.Operand.const (Go.Value.int Go.IntKind.i64 1)) 3) 4 [50] (by kernel_rfl) (by kernel_rfl) (by kernel_rfl) (fun _ _ h => h) (by rw [hsz]; kernel_rfl) (by kernel_rfl) rfl fun vals w1 ρ hG hF hρ hcst hfun => ?_
      have e73 : ρ (.tmp 73) = .int .i64 1 := ((hρ 73).trans (slotJ [50] (by rw [hsz]; decide) (by kernel_rfl))).trans (hF 50 (by decide))
      clear hρ hF hfun sl1 sl2 sl3 sl4 fin
      exact opv_val (by go_simp <;> rfl) ⟨gw_self _, rfl⟩
    · refine owes_v (Go.Op.pick (Go.Operand.tmp 70) (Go.Operand.tmp 74) (Go.Operand.const (Go.Value.bool false))) 4 [47, 51] (by kernel_rfl) (by kernel_rfl) (by kernel_rfl) rfl fun vals w1 ρ hG hF hρ hcst hfun => ?_
      have e70 : ρ (.tmp 70) = .bool true := ((hρ 70).trans (slotJ [47, 51] (by rw [hsz]; decide) (by kernel_rfl))).trans (hF 47 (by decide))
      have e74 : ρ (.tmp 74) = .bool true := ((hρ 74).trans (slotJ [47, 51] (by rw [hsz]; decide) (by kernel_rfl))).trans (hF 51 (by decide))
      clear hρ hF hfun sl1 sl2 sl3 sl4 fin
      exact opv_val (by go_simp <;> rfl) ⟨gw_self _, rfl⟩
    · exact owes_mvj 52 75 (by kernel_rfl) (by kernel_rfl) (by kernel_rfl) (by kernel_rfl) (by rw [hsz]; decide) (fun v w h => h)
    · refine owes_vt 53 true (Go.Op.load 25 (Go.Operand.tmp 1)) 25 [] (by kernel_rfl) (by kernel_rfl) (by kernel_rfl) (fun _ _ h => h) (by rw [hsz]; kernel_rfl) (by kernel_rfl) rfl fun vals w1 ρ hG hF hρ hcst hfun => ?_
      have e1 : ρ (.tmp 1) = .pointer (some ⟨w0.heap.size + 1 + 1 + 1 + 1, 0, none⟩) := ((hρ 1).trans (slotO [] (by kernel_rfl))).trans sl1
      obtain ⟨d0, d1, d2, d3, d4, d5, d6, d7⟩ := (hs.out.below hG).cells
      unfold kA
      clear hρ hF hcst hfun sl1 sl2 sl3 sl4 fin
      exact opv_val (by go_simp <;> rfl) ⟨gw_self _, rfl⟩
    · refine owes_vt 53 true (Go.Op.call { callee := Go.Callee.value (Go.Operand.func 23), args := #[Go.Operand.tmp 77], argTypes := #[25] }) 25 [54] (by kernel_rfl) (by kernel_rfl) (by kernel_rfl) (fun _ _ h => h) (by rw [hsz]; kernel_rfl) (by kernel_rfl) rfl fun vals w1 ρ hG hF hρ hcst hfun => ?_
      have e77 : ρ (.tmp 77) = kA w0 := ((hρ 77).trans (slotJ [54] (by rw [hsz]; decide) (by kernel_rfl))).trans (hF 54 (by decide))
      clear hρ hF hcst sl1 sl2 sl3 sl4 fin
      exact opv_enter (by go_simp <;> rfl) (k17_tw w0 w1 (hs.out.below hG).ga)
    · refine owes_vt 53 true (Go.Op.load 25 (Go.Operand.tmp 1)) 25 [] (by kernel_rfl) (by kernel_rfl) (by kernel_rfl) (fun _ _ h => h) (by rw [hsz]; kernel_rfl) (by kernel_rfl) rfl fun vals w1 ρ hG hF hρ hcst hfun => ?_
      have e1 : ρ (.tmp 1) = .pointer (some ⟨w0.heap.size + 1 + 1 + 1 + 1, 0, none⟩) := ((hρ 1).trans (slotO [] (by kernel_rfl))).trans sl1
      obtain ⟨d0, d1, d2, d3, d4, d5, d6, d7⟩ := (hs.out.below hG).cells
      unfold kA
      clear hρ hF hcst hfun sl1 sl2 sl3 sl4 fin
      exact opv_val (by go_simp <;> rfl) ⟨gw_self _, rfl⟩
    · refine owes_vt 53 true (Go.Op.call { callee := Go.Callee.value (Go.Operand.func 24), args := #[Go.Operand.tmp 78, Go.Operand.tmp 79], argTypes := #[25, 25] }) 4 [55, 56] (by kernel_rfl) (by kernel_rfl) (by kernel_rfl) (fun _ _ h => h) (by rw [hsz]; kernel_rfl) (by kernel_rfl) rfl fun vals w1 ρ hG hF hρ hcst hfun => ?_
      have f78 : (TwV w0) (vals 55) w1 := hF 55 (by decide)
      have e78 : ρ (.tmp 78) = vals 55 := (hρ 78).trans (slotJ [55, 56] (by rw [hsz]; decide) (by kernel_rfl))
      have e79 : ρ (.tmp 79) = kA w0 := ((hρ 79).trans (slotJ [55, 56] (by rw [hsz]; decide) (by kernel_rfl))).trans (hF 56 (by decide))
      clear hρ hF hcst sl1 sl2 sl3 sl4 fin
      exact opv_enter (by go_simp <;> rfl) (of_retK (k17_e1 w0 w1 (hs.out.below hG).ga f78))
    · refine owes_v (Go.Op.pick (Go.Operand.tmp 76) (Go.Operand.tmp 80) (Go.Operand.const (Go.Value.bool false))) 4 [53, 57] (by kernel_rfl) (by kernel_rfl) (by kernel_rfl) rfl fun vals w1 ρ hG hF hρ hcst hfun => ?_
      have e76 : ρ (.tmp 76) = .bool true := ((hρ 76).trans (slotJ [53, 57] (by rw [hsz]; decide) (by kernel_rfl))).trans (hF 53 (by decide))
      have e80 : ρ (.tmp 80) = .bool true := ((hρ 80).trans (slotJ [53, 57] (by rw [hsz]; decide) (by kernel_rfl))).trans (hF 57 (by decide))
      clear hρ hF hfun sl1 sl2 sl3 sl4 fin
      exact opv_val (by go_simp <;> rfl) ⟨gw_self _, rfl⟩
    · exact owes_mvj 58 81 (by kernel_rfl) (by kernel_rfl) (by kernel_rfl) (by kernel_rfl) (by rw [hsz]; decide) (fun v w h => h)
    · refine owes_vt 59 true (Go.Op.load 25 (Go.Operand.tmp 2)) 25 [] (by kernel_rfl) (by kernel_rfl) (by kernel_rfl) (fun _ _ h => h) (by rw [hsz]; kernel_rfl) (by kernel_rfl) rfl fun vals w1 ρ hG hF hρ hcst hfun => ?_
      have e2 : ρ (.tmp 2) = .pointer (some ⟨b2, 0, none⟩) := ((hρ 2).trans (slotO [] (by kernel_rfl))).trans sl2
      obtain ⟨d0, d1, d2, d3, d4, d5, d6, d7⟩ := (hs.out.below hG).cells
      clear hρ hF hcst hfun sl1 sl2 sl3 sl4 fin
      exact opv_val (by go_simp <;> rfl) ⟨gw_self _, rfl⟩
    · refine owes_vt 59 true (Go.Op.load 25 (Go.Operand.tmp 1)) 25 [] (by kernel_rfl) (by kernel_rfl) (by kernel_rfl) (fun _ _ h => h) (by rw [hsz]; kernel_rfl) (by kernel_rfl) rfl fun vals w1 ρ hG hF hρ hcst hfun => ?_
      have e1 : ρ (.tmp 1) = .pointer (some ⟨w0.heap.size + 1 + 1 + 1 + 1, 0, none⟩) := ((hρ 1).trans (slotO [] (by kernel_rfl))).trans sl1
      obtain ⟨d0, d1, d2, d3, d4, d5, d6, d7⟩ := (hs.out.below hG).cells
      unfold kA
      clear hρ hF hcst hfun sl1 sl2 sl3 sl4 fin
      exact opv_val (by go_simp <;> rfl) ⟨gw_self _, rfl⟩
    · refine owes_vt 59 true (Go.Op.call { callee := Go.Callee.value (Go.Operand.func 24), args := #[Go.Operand.tmp 83, Go.Operand.tmp 84], argTypes := #[25, 25] }) 4 [60, 61] (by kernel_rfl) (by kernel_rfl) (by kernel_rfl) (fun _ _ h => h) (by rw [hsz]; kernel_rfl) (by kernel_rfl) rfl fun vals w1 ρ hG hF hρ hcst hfun => ?_
      have e83 : ρ (.tmp 83) = .agg #[.slice t.A 2 t.c, .slice t.A2 M t.c2] := ((hρ 83).trans (slotJ [60, 61] (by rw [hsz]; decide) (by kernel_rfl))).trans (hF 60 (by decide))
      have e84 : ρ (.tmp 84) = kA w0 := ((hρ 84).trans (slotJ [60, 61] (by rw [hsz]; decide) (by kernel_rfl))).trans (hF 61 (by decide))
      clear hρ hF hcst sl1 sl2 sl3 sl4 fin
      exact opv_enter (by go_simp <;> rfl) (of_retK (k17_e2 w0 w1 (hs.out.below hG) ht.out.1 ht.out.2.1 ht.out.2.2))
    · refine owes_vt 59 true (Go.Op.unOp Go.UnOp.not 4 (Go.Operand.tmp 85)) 4 [62] (by kernel_rfl) (by kernel_rfl) (by kernel_rfl) (fun _ _ h => h) (by rw [hsz]; kernel_rfl) (by kernel_rfl) rfl fun vals w1 ρ hG hF hρ hcst hfun => ?_
      have e85 : ρ (.tmp 85) = .bool false := ((hρ 85).trans (slotJ [62] (by rw [hsz]; decide) (by kernel_rfl))).trans (hF 62 (by decide))
      clear hρ hF hcst hfun sl1 sl2 sl3 sl4 fin
      exact opv_val (by go_simp <;> rfl) ⟨gw_self _, rfl⟩
    · refine owes_v (Go.Op.pick (Go.Operand.tmp 82) (Go.Operand.tmp 86) (Go.Operand.const (Go.Value.bool false))) 4 [59, 63] (by kernel_rfl) (by kernel_rfl) (by kernel_rfl) rfl fun vals w1 ρ hG hF hρ hcst hfun => ?_
      have e82 : ρ (.tmp 82) = .bool true := ((hρ 82).trans (slotJ [59, 63] (by rw [hsz]; decide) (by kernel_rfl))).trans (hF 59 (by decide))
      have e86 : ρ (.tmp 86) = .bool true := ((hρ 86).trans (slotJ [59, 63] (by rw [hsz]; decide) (by kernel_rfl))).trans (hF 63 (by decide))
      clear hρ hF hfun sl1 sl2 sl3 sl4 fin
      exact opv_val (by go_simp <;> rfl) ⟨gw_self _, rfl⟩
    · exact owes_mvj 64 87 (by kernel_rfl) (by kernel_rfl) (by kernel_rfl) (by kernel_rfl) (by rw [hsz]; decide) (fun v w h => h)
  · intro vals w1 hG hF
    exact fin vals w1 hG (hF 65 (by decide +kernel))
theorem known17_c (w : World) : Calls Try.prog 8 #[] w (RetP (.bool true) w) := by
  have kc := Joins.run_convert_bytes_const_at (P := Try.prog) (w.alloc (.cells #[.int .i64 2] 3)) 51 5 #[.int .u8 120] 1 1 (w.heap.size + 1) (by simp) Try.underlying51 Try.underlying5
  have HT := Lib.hid (k17_trim w)
  have HB := Lib.hid (kW_blocks w)
  have HGA := Lib.hid (kG_at w)
  go_enter Try.func8, Try.ntmps8
  go_wp2_with fail
  refine Calls.mono HT.out ?_
  clear kc
  have hbox := HB.out.2.2.2.2.1
  have hsz := HB.out.2.2.2.2.2.1
  obtain ⟨KW, hKW⟩ : ∃ K, K = kW w := ⟨_, rfl⟩
  rw [← hKW] at HB HGA hbox hsz ⊢
  have HKb := Lib.hid HB.out.2.2.2.2.2.2
  clear hKW HT HB
  rintro e V1 ⟨g', q, rfl, hl2, hga, hgs, hto, b1⟩
  obtain ⟨GA, gc, GA2, gc2, gn, gr⟩ := g'
  obtain ⟨M, hM⟩ : ∃ M, M = gr.length := ⟨_, rfl⟩
  simp only at hl2
  rw [← hM]
  have hboxV := hbox.below b1 hbox.lt
  have HV := Lib.hid (And.intro hga (And.intro hgs (And.intro hto (And.intro b1 (And.intro hl2 (And.intro hM hboxV))))))
  have c0 := hboxV.two.1
  have c1 := hboxV.two.2
  have hlt := hboxV.lt
  clear hga hgs hto b1 hl2 hM hboxV hbox
  go_wp2_with fail
  have b2 : Below V1.heap.size V1 ((V1.alloc (.cells #[.slice GA 2 gc, .slice GA2 M gc2] 25)).alloc (.cells #[.int .i64 2] 3)) := (Gw.alloc _ _).trans ((Gw.alloc _ _).mono (by simp))
  have k2 := Bk.new V1 25 #[.slice GA 2 gc, .slice GA2 M gc2]
  have k3 : Bk ((V1.alloc (.cells #[.slice GA 2 gc, .slice GA2 M gc2] 25)).alloc (.cells #[.int .i64 2] 3)) (V1.heap.size + 1) 3 #[.int .i64 2] := by
    have := Bk.new (V1.alloc (.cells #[.slice GA 2 gc, .slice GA2 M gc2] 25)) 3 #[.int .i64 2]
    simpa using this
  refine Calls.mono (k17_reach w _ ((HGA.out.up HV.out.2.2.2.1).up b2) _ k3) ?_
  rintro e V3 ⟨qr, rfl, hre, b3⟩
  have b13 : Below V1.heap.size V1 V3 := b2.trans (b3.mono b2.size)
  have hKS : KS w V3 V1.heap.size q qr ⟨GA, gc, GA2, gc2, gn, gr⟩ M := by
    obtain ⟨o1, o2, o3, o4, o5, o6, o7⟩ := HV.out
    exact ⟨(HGA.out.up o4).up b13, o1.up b13, o7.below b13 o7.lt, (k2.alloc _).below b3 (by simp; omega), (o3.below b13).mono (Nat.zero_le _), hre, HKb.out.trans ((o4.trans (b13.mono o4.size)).mono (by have := HKb.out.size; omega))⟩
  have HS := Lib.hid hKS
  obtain ⟨d0, d1, d2, d3, d4, d5, d6, d7⟩ := hKS.cells
  simp only at d2 d3
  have HG2 := Lib.hid (And.intro HV.out.2.1 (And.intro HV.out.2.2.2.2.1 HV.out.2.2.2.2.2.1))
  clear b2 k2 k3 hre b3 b13 hKS c0 c1 HV HGA hlt
  clear d0 d1 d2 d3 d4 d5 d6 d7 hsz
  go_wp2_with fail
  refine k17_r _ _ _ w V1.heap.size q qr M ⟨GA, gc, GA2, gc2, gn, gr⟩ HS (Lib.hid HG2.out) rfl rfl rfl rfl rfl ?_
  intro vals w9 hG h0
  unfold IsV at h0
  simp only [putD, Act.put, List.setIfInBounds_toArray, List.set_cons_zero, List.set_cons_succ, h0]
  have HB9 := Lib.hid (HS.out.below hG).bl
  clear hG h0 HS
  go_wp2_with fail
  go_ret
  exact ⟨rfl, HB9.out⟩
end Go.Proofs.Ytidaimcndbhefaa
