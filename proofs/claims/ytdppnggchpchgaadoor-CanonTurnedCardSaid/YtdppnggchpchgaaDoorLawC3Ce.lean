/- The law CanonTurned of layer 18 returns true for every argument. -/
import Derived.Test.YtdppnggchpchgaaDoorCe10
import Derived.Deep.CutRange
namespace Go.Proofs.YtdppnggchpchgaaDoor
set_option linter.unusedVariables false
set_option linter.unusedSimpArgs false
open Go.RowKit Go.Maps
theorem gv_n {g : Gv} {A A2 : Option Addr} {N M a1 a2 : Nat} (h : g.v = .agg #[.slice A N a1, .slice A2 M a2]) : N = g.n.length := by
  have h' : Value.agg #[.slice g.A g.n.length g.c, .slice g.A2 g.r.length g.c2] = .agg #[.slice A N a1, .slice A2 M a2] := h
  injection h' with h'
  have h2 := congrArg (fun (a : Array Value) => a[0]?) h'
  simp at h2
  exact h2.2.1.symm
theorem u8_wf3 {a : Int} (h : (Lit.int .u8 a).wf = true) : 0 ≤ a ∧ a ≤ 255 := by
  simp [Lit.wf, IntKind.min, IntKind.max, IntKind.signed, IntKind.bits] at h
  omega
theorem u8_ge (x : BitVec 8) : 0 ≤ U8 x ∧ U8 x ≤ 255 := by
  have h := x.isLt
  have e : U8 x = (x.toNat : Int) := rfl
  omega
theorem ow_empT (w : World) : Ow iV 3 (w.alloc (.cells #[] 3)) w.heap.size (.slice (some ⟨w.heap.size, 0, none⟩) 0 0) [] := by
  refine ⟨by simp, .inr ⟨w.heap.size, 0, #[], rfl, Nat.le_refl _, Bk.new w 3 #[], Nat.le_refl _, by unfold maxLen; omega, rfl, rfl⟩⟩
theorem ne_nil (u : Value) : u.ownBlock = none ∨ u.ownBlock ≠ (Value.slice none 0 0).ownBlock := by
  cases e : u.ownBlock with
  | none => exact .inl rfl
  | some c => exact .inr (fun h => by cases h)
theorem rows_ne {W : World} {b b2 n m E F : Nat} {u v : Value} {cs ds : List Value} (h1 : W.ownsRow b E 2 u n cs) (h2 : W.ownsRow b2 F 2 v m ds) (hne : E ≠ F) : u.ownBlock = none ∨ u.ownBlock ≠ v.ownBlock := by
  rcases h1.2 with ⟨e, _⟩ | ⟨g, cap, cur, e, _, hh, _⟩
  · left; rw [e]; rfl
  · right
    rw [e]
    rcases h2.2 with ⟨e2, _⟩ | ⟨g2, cap2, cur2, e2, _, hh2, _⟩
    · rw [e2]; intro e3; cases e3
    · rw [e2]
      intro e3
      injection e3 with e3
      have e4 : g = g2 := e3
      exact type_ne2 hh hh2 hne e4
theorem text_yk {W : World} {y g : Gv} {v : Value} {T : List (BitVec 8)} (hv : y.v = v) (ok : CanOk y) (hf : FewP g) (hm : canM y = canM g ∧ canR y = canR g) (hT : textL (canR g) (canM g) = T) (h : y.At W W.heap.size) (ht : W.cell? ⟨2, 15, none⟩ = some (.int .u8 4)) : Calls Tryd.prog 14 #[v] W (RetP (.string (strB T)) W) := by
  have k := text_c W y h ok (fun c h1 h2 => text_ok hf c (h1.trans hm.1) (h2.trans hm.2)) ht
  rw [hm.1, hm.2, hT, hv] at k
  exact k
/-- Two rows of one's own, apart. -/
structure LP (W : World) (B : Nat) (u v : Value) (l p : List Int) : Prop where
  left : Ow iV 3 W B u l
  pick : Ow iV 3 W B v p
  ne : u.ownBlock = none ∨ u.ownBlock ≠ v.ownBlock
  sz : B ≤ W.heap.size
theorem LP.below {W W' : World} {B : Nat} {u v : Value} {l p : List Int} (h : LP W B u v l p) (hb : Below W.heap.size W W') : LP W' B u v l p := ⟨h.left.below hb, h.pick.below hb, h.ne, Nat.le_trans h.sz hb.size⟩
theorem row_ne_bk {E F : TypeId} {W : World} {b y n : Nat} {u : Value} {cs : List Value} {ds : Array Value} (h1 : W.ownsRow b E 2 u n cs) (h2 : Bk W y F ds) (hne : E ≠ F) : ∀ c, u.ownBlock = some c → ¬ c = y := fun c e e2 => by
  rcases h1.2 with ⟨e3, _⟩ | ⟨g, cap, cur, e3, _, hh, _⟩
  · rw [e3] at e; cases e
  · rw [e3] at e
    injection e with e
    have e4 : g = c := e
    exact type_ne2 hh h2 hne (e4.trans e2)
/-- A graph in a box, nodes are being added. -/
structure X3 (W x2 : World) (B sx : Nat) (VA A2 : Option Addr) (vc c2 xm m : Nat) (xs : List Nv) (xr : List Rv) : Prop where
  go : GO2 W B ⟨VA, vc, A2, c2, xs, xr⟩
  bk : Bk W sx 32 #[.slice VA m vc, .slice A2 xm c2]
  bl : Below x2.heap.size x2 W
theorem ow_one (w : World) (z : Int) : Ow iV 3 (w.alloc (.cells #[.int .i64 z] 3)) w.heap.size (.slice (some ⟨w.heap.size, 0, none⟩) 1 1) [z] := by
  refine ⟨by simp, .inr ⟨w.heap.size, 1, #[.int .i64 z], rfl, Nat.le_refl _, Bk.new w 3 #[.int .i64 z], Nat.le_refl _, by unfold maxLen; omega, rfl, rfl⟩⟩
theorem x3_pre (W : World) (z : Int) : Below W.heap.size W ((W.alloc (.cells #[.int .i64 z] 3)).alloc (.cells #[.slice (some ⟨W.heap.size, 0, none⟩) 1 1, .slice none 0 0] 49)).drew :=
  (Gw.alloc W _).trans (((Gw.alloc _ _).trans ((Gw.drew _).mono (Gw.alloc _ _).size)).mono (Gw.alloc W _).size)
theorem X3.step {W x2 W1 w5 : World} {B sx vc c2 xm m c5 : Nat} {VA A2 A5 : Option Addr} {xs : List Nv} {xr : List Rv} {z : Int} (h : X3 W x2 B sx VA A2 vc c2 xm m xs xr) (hm : m = xs.length) (hB : x2.heap.size ≤ B) (hs : B ≤ sx)
    (e1 : W1 = ((W.alloc (.cells #[.int .i64 z] 3)).alloc (.cells #[.slice (some ⟨W.heap.size, 0, none⟩) 1 1, .slice none 0 0] 49)).drew)
    (ho : w5.ownsRow B 49 2 (.slice A5 (m + 1) c5) (m + 1) (xs.flatMap Nv.cs ++ [.slice (some ⟨W.heap.size, 0, none⟩) 1 1, .slice none 0 0])) (hb : Below B W1 w5) (hg : W1.grownBy w5 (Value.slice VA m vc).ownBlock) :
    X3 (w5.setCell ⟨sx, 0, none⟩ (.slice A5 (m + 1) c5)) x2 B sx A5 A2 c5 c2 xm (m + 1) (xs ++ [⟨some ⟨W.heap.size, 0, none⟩, 1, none, 0, [z], []⟩]) xr := by
  have b1 : Below W.heap.size W W1 := by rw [e1]; exact x3_pre W z
  have go1 := h.go.below b1
  have bk1 := h.bk.below b1 h.bk.lt
  have hx : Ow iV 3 W1 B (.slice (some ⟨W.heap.size, 0, none⟩) 1 1) [z] := by
    rw [e1]
    exact (show Ow iV 3 ((W.alloc (.cells #[.int .i64 z] 3)).alloc (.cells #[.slice (some ⟨W.heap.size, 0, none⟩) 1 1, .slice none 0 0] 49)).drew W.heap.size _ [z] from (ow_one W z).alloc _).mono (by have := h.bk.lt; omega)
  subst hm
  have hn : W1.ownsRow B 49 2 (.slice VA xs.length vc) xs.length (xs.flatMap Nv.cs) := go1.nd.row
  have nd : NO2 w5 B (.slice A5 (xs.length + 1) c5) (xs ++ [⟨some ⟨W.heap.size, 0, none⟩, 1, none, 0, [z], []⟩]) :=
    NO2.app (x := ⟨some ⟨W.heap.size, 0, none⟩, 1, none, 0, [z], []⟩) go1.nd ⟨hx, Ow.nil_ _ _ _ _⟩ ho hg
  have bk5 : Bk w5 sx 32 #[.slice VA xs.length vc, .slice A2 xm c2] := (hg.block _ bk1.lt (fun e => row_ne_bk hn bk1 (by decide) _ e.symm rfl)).trans bk1
  have rt5 := World.ownsRow.kept go1.rt hg (rows_ne go1.rt hn (by decide))
  have g5 : GO2 w5 B ⟨A5, c5, A2, c2, xs ++ [⟨some ⟨W.heap.size, 0, none⟩, 1, none, 0, [z], []⟩], xr⟩ := by
    refine ⟨?_, rt5⟩
    show NO2 w5 B (.slice A5 (xs ++ [_]).length c5) _
    rw [List.length_append]
    exact nd
  exact ⟨g5.far (grown_set w5 ⟨sx, 0, none⟩ _) bk5, bk5.set 0 _, ((h.bl.trans (b1.mono h.bl.size)).trans (hb.mono hB)).setCell (p := ⟨sx, 0, none⟩) (show x2.heap.size ≤ sx by omega) _⟩
set_option maxHeartbeats 8000000
set_option maxRecDepth 100000
theorem ct23 (Q : Exit → Act → World → Prop) (a0 : Act) (w : World) (sg sy : Nat) (g y : Gv) (A A2 B B2 : Option Addr) (N M K L a1 a2 b1 b2 : Nat) (T : List (BitVec 8)) (hvg : g.v = .agg #[.slice A N a1, .slice A2 M a2]) (hvy : y.v = .agg #[.slice B K b1, .slice B2 L b2]) (hfg : FewP g) (h0 : ckG g = 0) (oky : CanOk y) (hm : Hid (canM y = canM g ∧ canR y = canR g)) (hg : Hid (GBx w sg g (.slice A N a1) (.slice A2 M a2))) (hgy : Hid (GBx w sy y (.slice B K b1) (.slice B2 L b2))) (hT : Hid (textL (canR g) (canM g) = T)) (ht : Hid (∀ W, Below w.heap.size w W → W.cell? ⟨2, 15, none⟩ = some (.int .u8 4))) (hsz : a0.tmps.size = 121) (sl3 : a0.tmps.getD 3 undef = .pointer (some ⟨sg, 0, none⟩)) (sl16 : a0.tmps.getD 16 undef = .pointer (some ⟨sy, 0, none⟩))
    (fin : ∀ (vals : Nat → Value) (w1 : World), Below w.heap.size w w1 → (IsV (.bool true)) (vals 10) w1 → Q .normal (putD vals [111, 112, 113, 114, 115, 116, 117, 118, 119, 120, 6] 0 a0) w1) :
    (Code.region 23 (regIn Tryd.f5 23) true).wp Tryd.prog Q a0 w := by
  refine region_by (G := fun w w1 => Below w.heap.size w w1) [IsV (.agg #[.slice A N a1, .slice A2 M a2]),
    IsV (.agg #[.slice B K b1, .slice B2 L b2]),
    IsV (.bool true),
    IsV (.bool true),
    IsV (.agg #[.slice A N a1, .slice A2 M a2]),
    IsV (.string (strB T)),
    IsV (.agg #[.slice B K b1, .slice B2 L b2]),
    IsV (.string (strB T)),
    IsV (.bool true),
    IsV (.bool true),
    IsV (.bool true)]
    [111, 112, 113, 114, 115, 116, 117, 118, 119, 120, 6] (by kernel_rfl) (Gw.drew _) Gw.trans (by rw [hsz]; kernel_rfl) (by kernel_rfl) ?_ ?_ ?_
  · intro f hf
    simp only [List.mem_cons, List.not_mem_nil, or_false] at hf
    rcases hf with rfl | rfl | rfl | rfl | rfl | rfl | rfl | rfl | rfl | rfl | rfl <;> intro v a b h g <;> first | exact IsV.mono h
  · refine ⟨?_, ?_, ?_, ?_, ?_, ?_, ?_, ?_, ?_, ?_, ?_, trivial⟩
    · refine owes_v (Go.Op.load 25 (Go.Operand.tmp 3)) 25 [] (by kernel_rfl) (by kernel_rfl) (by kernel_rfl) rfl fun vals w1 ρ hG hF hρ hcst hfun => ?_
      have e3 : ρ (.tmp 3) = .pointer (some ⟨sg, 0, none⟩) := ((hρ 3).trans (slotO [] (by kernel_rfl))).trans sl3
      obtain ⟨d0, d1, _⟩ := hg.out w1 hG
      clear hρ hF hcst hfun sl3 sl16 fin
      exact opv_val (by go_simp <;> rfl) ⟨gw_self _, rfl⟩
    · refine owes_v (Go.Op.load 25 (Go.Operand.tmp 16)) 25 [] (by kernel_rfl) (by kernel_rfl) (by kernel_rfl) rfl fun vals w1 ρ hG hF hρ hcst hfun => ?_
      have e16 : ρ (.tmp 16) = .pointer (some ⟨sy, 0, none⟩) := ((hρ 16).trans (slotO [] (by kernel_rfl))).trans sl16
      obtain ⟨d0, d1, _⟩ := hgy.out w1 hG
      clear hρ hF hcst hfun sl3 sl16 fin
      exact opv_val (by go_simp <;> rfl) ⟨gw_self _, rfl⟩
    · refine owes_v (Go.Op.call { callee := Go.Callee.value (Go.Operand.func 21), args := #[Go.Operand.tmp 111, Go.Operand.tmp 112], argTypes := #[25, 25] }) 4 [0, 1] (by kernel_rfl) (by kernel_rfl) (by kernel_rfl) rfl fun vals w1 ρ hG hF hρ hcst hfun => ?_
      have e111 : ρ (.tmp 111) = .agg #[.slice A N a1, .slice A2 M a2] := ((hρ 111).trans (slotJ [0, 1] (by rw [hsz]; decide) (by kernel_rfl))).trans (hF 0 (by decide))
      have e112 : ρ (.tmp 112) = .agg #[.slice B K b1, .slice B2 L b2] := ((hρ 112).trans (slotJ [0, 1] (by rw [hsz]; decide) (by kernel_rfl))).trans (hF 1 (by decide))
      clear hρ hF hcst sl3 sl16 fin
      exact opv_enter (by go_simp <;> rfl) (of_retK (csame_k hvg hvy (can_ok h0 hfg.small) oky (sameC_true hm.out.1.symm hm.out.2.symm) (hg.out w1 hG).2.2 (hgy.out w1 hG).2.2))
    · exact owes_mvj 2 113 (by kernel_rfl) (by kernel_rfl) (by kernel_rfl) (by kernel_rfl) (by rw [hsz]; decide) (fun v w h => h)
    · refine owes_vt 3 true (Go.Op.load 25 (Go.Operand.tmp 3)) 25 [] (by kernel_rfl) (by kernel_rfl) (by kernel_rfl) (fun _ _ h => h) (by rw [hsz]; kernel_rfl) (by kernel_rfl) rfl fun vals w1 ρ hG hF hρ hcst hfun => ?_
      have e3 : ρ (.tmp 3) = .pointer (some ⟨sg, 0, none⟩) := ((hρ 3).trans (slotO [] (by kernel_rfl))).trans sl3
      obtain ⟨d0, d1, _⟩ := hg.out w1 hG
      clear hρ hF hcst hfun sl3 sl16 fin
      exact opv_val (by go_simp <;> rfl) ⟨gw_self _, rfl⟩
    · refine owes_vt 3 true (Go.Op.call { callee := Go.Callee.value (Go.Operand.func 14), args := #[Go.Operand.tmp 115], argTypes := #[25] }) 9 [4] (by kernel_rfl) (by kernel_rfl) (by kernel_rfl) (fun _ _ h => h) (by rw [hsz]; kernel_rfl) (by kernel_rfl) rfl fun vals w1 ρ hG hF hρ hcst hfun => ?_
      have e115 : ρ (.tmp 115) = .agg #[.slice A N a1, .slice A2 M a2] := ((hρ 115).trans (slotJ [4] (by rw [hsz]; decide) (by kernel_rfl))).trans (hF 4 (by decide))
      clear hρ hF hcst sl3 sl16 fin
      exact opv_enter (by go_simp <;> rfl) (of_retK (text_k hvg hfg h0 hT.out (hg.out w1 hG).2.2 (ht.out w1 hG)))
    · refine owes_vt 3 true (Go.Op.load 25 (Go.Operand.tmp 16)) 25 [] (by kernel_rfl) (by kernel_rfl) (by kernel_rfl) (fun _ _ h => h) (by rw [hsz]; kernel_rfl) (by kernel_rfl) rfl fun vals w1 ρ hG hF hρ hcst hfun => ?_
      have e16 : ρ (.tmp 16) = .pointer (some ⟨sy, 0, none⟩) := ((hρ 16).trans (slotO [] (by kernel_rfl))).trans sl16
      obtain ⟨d0, d1, _⟩ := hgy.out w1 hG
      clear hρ hF hcst hfun sl3 sl16 fin
      exact opv_val (by go_simp <;> rfl) ⟨gw_self _, rfl⟩
    · refine owes_vt 3 true (Go.Op.call { callee := Go.Callee.value (Go.Operand.func 14), args := #[Go.Operand.tmp 117], argTypes := #[25] }) 9 [6] (by kernel_rfl) (by kernel_rfl) (by kernel_rfl) (fun _ _ h => h) (by rw [hsz]; kernel_rfl) (by kernel_rfl) rfl fun vals w1 ρ hG hF hρ hcst hfun => ?_
      have e117 : ρ (.tmp 117) = .agg #[.slice B K b1, .slice B2 L b2] := ((hρ 117).trans (slotJ [6] (by rw [hsz]; decide) (by kernel_rfl))).trans (hF 6 (by decide))
      clear hρ hF hcst sl3 sl16 fin
      exact opv_enter (by go_simp <;> rfl) (of_retK (text_yk hvy oky hfg hm.out hT.out (hgy.out w1 hG).2.2 (ht.out w1 hG)))
    · refine owes_vt 3 true (Go.Op.binOp Go.BinOp.eql 9 (Go.Operand.tmp 116) (Go.Operand.tmp 118) 9) 4 [5, 7] (by kernel_rfl) (by kernel_rfl) (by kernel_rfl) (fun _ _ h => h) (by rw [hsz]; kernel_rfl) (by kernel_rfl) rfl fun vals w1 ρ hG hF hρ hcst hfun => ?_
      have e116 : ρ (.tmp 116) = .string (strB T) := ((hρ 116).trans (slotJ [5, 7] (by rw [hsz]; decide) (by kernel_rfl))).trans (hF 5 (by decide))
      have e118 : ρ (.tmp 118) = .string (strB T) := ((hρ 118).trans (slotJ [5, 7] (by rw [hsz]; decide) (by kernel_rfl))).trans (hF 7 (by decide))
      clear hρ hF hcst hfun sl3 sl16 fin
      exact opv_val (by go_simp <;> rfl) ⟨gw_self _, rfl⟩
    · refine owes_v (Go.Op.pick (Go.Operand.tmp 114) (Go.Operand.tmp 119) (Go.Operand.const (Go.Value.bool false))) 4 [3, 8] (by kernel_rfl) (by kernel_rfl) (by kernel_rfl) rfl fun vals w1 ρ hG hF hρ hcst hfun => ?_
      have e114 : ρ (.tmp 114) = .bool true := ((hρ 114).trans (slotJ [3, 8] (by rw [hsz]; decide) (by kernel_rfl))).trans (hF 3 (by decide))
      have e119 : ρ (.tmp 119) = .bool true := ((hρ 119).trans (slotJ [3, 8] (by rw [hsz]; decide) (by kernel_rfl))).trans (hF 8 (by decide))
      clear hρ hF hfun sl3 sl16 fin
      exact opv_val (by go_simp <;> rfl) ⟨gw_self _, rfl⟩
    · exact owes_mvj 9 120 (by kernel_rfl) (by kernel_rfl) (by kernel_rfl) (by kernel_rfl) (by rw [hsz]; decide) (fun v w h => h)
  · intro vals w1 hG hF
    exact fin vals w1 hG (hF 10 (by decide +kernel))
theorem turned18_walk (w : World) (ht : w.cell? ⟨2, 15, none⟩ = some (.int .u8 4)) (g : Gv) (wg : GvOk w g) (OA : Option Addr) (os : List (BitVec 8)) (oc : Nat) (_ : os.length ≤ oc) (hm : oc ≤ maxLen) (ho : Rd b8 w w.heap.size OA os) (mo : Int) (wm : (Lit.int .u8 mo).wf = true) : Calls Tryd.prog 5 #[g.v, .slice OA os.length oc, .int .u8 mo] w (RetP (.bool true) w) := by
  have HT := Lib.hid (fun W (h : Below w.heap.size w W) => (h.cell (tab_lt ht)).trans ht)
  have HK := Lib.hid (fun W (h : Below w.heap.size w W) => known18_c W (HT.out W h))
  have HFw := Lib.hid (fun W (h : Below w.heap.size w W) => few_c W g (wg.at_.up h))
  have HOf := Lib.hid (fun W (h : Below w.heap.size w W) (hf : FewP g) => of_k (W := W) (g := g) (v := g.v) rfl hf (wg.at_.up h))
  have HCn := Lib.hid (fun W (h : Below w.heap.size w W) (hf : FewP g) (h0 : ckG g = 0) => can_v (W := W) (g := g) (v := g.v) rfl (can_ok h0 hf.small) (wg.at_.up h))
  have HAt := Lib.hid wg.at_
  have HM8 := Lib.hid (u8_wf3 wm)
  have HOr := Lib.hid ho
  obtain ⟨Q, hQ⟩ : ∃ Q, Q = os.length := ⟨_, rfl⟩
  have HQl := Lib.hid hQ
  rw [← hQ]
  clear wm ho hm hQ
  obtain ⟨va, hva⟩ : ∃ v, v = g.v := ⟨_, rfl⟩
  obtain ⟨A, N, a1, A2, M, a2, ea⟩ : ∃ A N a1 A2 M a2, va = .agg #[.slice A N a1, .slice A2 M a2] := ⟨_, _, _, _, _, _, hva⟩
  rw [← hva] at HFw HOf HCn ⊢
  subst ea
  have HV := Lib.hid hva.symm
  clear hva wg ht
  go_enter Tryd.func5, Tryd.ntmps5
  go_wp2_with fail
  obtain ⟨sa, hsa⟩ : ∃ s, s = w.heap.size := ⟨_, rfl⟩
  obtain ⟨x2, hx2⟩ : ∃ W, W = w.alloc (.cells #[.slice A N a1, .slice A2 M a2] 25) := ⟨_, rfl⟩
  rw [← hsa, ← hx2]
  have k1 : Bk x2 sa 25 #[.slice A N a1, .slice A2 M a2] := by rw [hx2, hsa]; exact Bk.new w _ _
  have d1 : Below w.heap.size w x2 := by rw [hx2]; exact Gw.alloc w _
  have HX := Lib.hid (show ∀ W, Below x2.heap.size x2 W → Bk W sa 25 #[.slice A N a1, .slice A2 M a2] ∧ Below w.heap.size w W from fun W h =>
    ⟨k1.below h k1.lt, d1.trans (h.mono d1.size)⟩)
  have B2 := Lib.hid (Below.refl x2.heap.size x2)
  clear hsa hx2 k1 d1
  refine Calls.mono (HK.out x2 (HX.out x2 B2.out).2) ?_
  rintro r x3 ⟨rfl, h⟩
  have B3 := Lib.hid (B2.out.trans (h.mono B2.out.size))
  clear h
  obtain ⟨ca0, ca1⟩ := (HX.out x3 B3.out).1.two
  have cal := (HX.out x3 B3.out).1.lt
  go_wp2_with fail
  refine Calls.mono (HFw.out x3 (HX.out x3 B3.out).2) ?_
  rintro r x4 ⟨bf, rfl, hfa, h⟩
  have B4 := Lib.hid (B3.out.trans (h.mono B3.out.size))
  clear h ca0 ca1 cal
  cases bf with
  | false =>
    clear hfa
    go_wp2_with fail
    go_ret
    exact ⟨rfl, (HX.out x4 B4.out).2⟩
  | true =>
    have FG := Lib.hid (hfa rfl)
    clear hfa
    obtain ⟨ca0, ca1⟩ := (HX.out x4 B4.out).1.two
    have cal := (HX.out x4 B4.out).1.lt
    go_wp2_with fail
    refine Calls.mono (HOf.out x4 (HX.out x4 B4.out).2 FG.out) ?_
    rintro r x5 ⟨u, rfl, h, hu⟩
    have B5 := Lib.hid (B4.out.trans (h.mono B4.out.size))
    have HC := Lib.hid (rck_k FG.out hu)
    obtain ⟨E0, hE0⟩ : ∃ E, E = ckG g := ⟨_, rfl⟩
    rw [← hE0] at HC
    have HE0 := Lib.hid hE0
    clear h hu hE0 ca0 ca1 cal
    go_wp2_with fail
    refine Calls.mono HC.out ?_
    rintro r x6 ⟨rfl, h⟩
    have B6 := Lib.hid (B5.out.trans (h.mono B5.out.size))
    clear h HC
    by_cases hE : E0 = 0
    · subst hE
      obtain ⟨ca0, ca1⟩ := (HX.out x6 B6.out).1.two
      have cal := (HX.out x6 B6.out).1.lt
      have hNn := gv_n HV.out
      have HNn := Lib.hid hNn
      have q0 : (N : Int) ≤ 60 := by have := FG.out.1; omega
      clear hNn
      by_cases hq1 : Q < N
      · have hq1' : (Q : Int) < (N : Int) := by omega
        go_wp2_with fail
        go_ret
        exact ⟨rfl, (HX.out x6 B6.out).2⟩
      · by_cases hq2 : 200 < Q
        · have hq1' : ¬ (Q : Int) < (N : Int) := by omega
          have hq2' : (200 : Int) < (Q : Int) := by omega
          go_wp2_with fail
          go_ret
          exact ⟨rfl, (HX.out x6 B6.out).2⟩
        · have hq1' : ¬ (Q : Int) < (N : Int) := by omega
          have hq2' : ¬ (200 : Int) < (Q : Int) := by omega
          have HQ := Lib.hid (show N ≤ Q from by omega)
          have hd1 : decide (Q < N) = false := decide_eq_false hq1
          have hd2 : decide ((200 : Int) < (Q : Int)) = false := decide_eq_false hq2'
          clear hq1 hq2
          go_wp2_with fail
          clear ca0 ca1 cal hq1' hq2' hd1 hd2
          obtain ⟨B, hB⟩ : ∃ B, B = x6.heap.size := ⟨_, rfl⟩
          have HB := Lib.hid hB
          clear hB
          go_loopw [8, 10] (fun o i W => ∃ k : Nat, i = .int .i64 ((k : Int) + 1) ∧ k ≤ N ∧ Hid (Ow iV 3 W B o (idL k) ∧ Below x6.heap.size x6 W)) (fun _ i _ => N + 1 - (Go.RowKit.intOf i).toNat)
          case atStart => exact ⟨0, by go_num, Nat.zero_le _, Lib.hid ⟨Ow.nil_ _ _ _ _, Below.refl _ _⟩⟩
          case round =>
            obtain ⟨k, rfl, hk, hS⟩ := hrel
            by_cases hlt : k < N
            · have p1 : (k : Int) + 1 ≤ (N : Int) := by omega
              have p2 : (0 : Int) ≤ (k : Int) := by omega
              have HRz := Lib.hid (show Rd iV (wr.alloc (.cells #[.int .i64 ((k : Int) + 1)] 3)) (wr.heap.size + 1) (some ⟨wr.heap.size, 0, none⟩) [(k : Int) + 1] from rd1_new (f := iV) (w := wr) (E := 3) (y := (k : Int) + 1) (u := .int .i64 ((k : Int) + 1)) rfl)
              obtain ⟨VA, vc, rfl, hvc⟩ := hS.out.1.form
              have HSz := Lib.hid (show B ≤ (wr.alloc (.cells #[.int .i64 ((k : Int) + 1)] 3)).heap.size from by have h1 := HB.out; have h2 := hS.out.2.size; have h3 := (Gw.alloc wr (.cells #[.int .i64 ((k : Int) + 1)] 3)).size; omega)
              have hml : (idL k).length + 1 ≤ 4294967296 := by rw [idL_len]; omega
              clear hvc
              go_wp2_with (at_builtin; refine wp_app oneI iV_one rfl (.tmp 49) (.tmp 51) rfl B _ (idL k) rfl (hS.out.1.alloc _) (some ⟨wr.heap.size, 0, none⟩) 1 1 [(k : Int) + 1] rfl rfl (wr.heap.size + 1) HRz.out hml (by decide) HSz.out ?_; intro v5 w5 ho5 hb5 hg5 _; have H5 := Lib.hid (show Ow iV 3 w5 B v5 (idL (k + 1)) ∧ Below x6.heap.size x6 w5 from ⟨by rw [idL_snoc]; exact ho5, (hS.out.2.alloc (by have := hS.out.2.size; omega) _).trans (hb5.mono (by have := HB.out; omega))⟩); clear ho5 hb5 hg5)
              go_roundw
              case rel =>
                have X : ∃ k' : Nat, (Value.int .i64 ((k : Int) + 1 + 1)) = .int .i64 ((k' : Int) + 1) ∧ k' ≤ N ∧ Hid (Ow iV 3 w5 B v5 (idL k') ∧ Below x6.heap.size x6 w5) := ⟨k + 1, by go_num, by omega, H5⟩
                first | exact X | exact ⟨_, _, _, _, _, _, _, _, _, _, _, X, rfl⟩
              case measure => simp [Go.RowKit.intOf]; omega
            · have hkN : k = N := by omega
              have HS1 := hS
              rw [hkN] at HS1
              clear hkN hS
              go_wp2_with fail
              go_loopw [8, 9, 11] (fun u v i W => ∃ (k : Nat) (l p : List Int), i = .int .i64 k ∧ k ≤ N ∧ Hid (LP W B u v l p ∧ l.length + k = N ∧ (p ++ l).Perm (idL N)) ∧ Hid (Below x6.heap.size x6 W)) (fun _ _ i _ => N - (Go.RowKit.intOf i).toNat)
              case atStart => exact ⟨0, idL N, [], rfl, Nat.zero_le _, Lib.hid ⟨⟨HS1.out.1, Ow.nil_ _ _ _ _, ne_nil _, by have h1 := HB.out; have h2 := HS1.out.2.size; omega⟩, by rw [idL_len]; omega, by rw [List.nil_append]⟩, Lib.hid HS1.out.2⟩
              case round =>
                clear HS1
                obtain ⟨k, l, p, rfl, hk, hS, hB⟩ := hrel
                by_cases hlt2 : k < N
                · have hko : k < os.length := by have := HQ.out; have := HQl.out; omega
                  obtain ⟨x, hx⟩ : ∃ x, x = os[k] := ⟨_, rfl⟩
                  obtain ⟨oa, rfl, hcell⟩ : ∃ ad, OA = some ad ∧ wr.cell? (ad.add k) = some (.int .u8 (U8 x)) := by
                    obtain ⟨ad, e, _, hc⟩ := (HOr.out.below ((HX.out x6 B6.out).2.trans (hB.out.mono (HX.out x6 B6.out).2.size))) k hko
                    exact ⟨ad, e, by rw [hx]; exact hc⟩
                  obtain ⟨L, hL⟩ : ∃ L, L = l.length := ⟨_, rfl⟩
                  have hL0 : L ≤ 60 ∧ 0 < L := by have := hS.out.2.1; omega
                  obtain ⟨LA, lc, rfl, hlc⟩ := hS.out.1.left.form
                  rw [← hL] at hS ⊢
                  obtain ⟨q, rfl⟩ : ∃ q, LA = some ⟨q, 0, none⟩ := by
                    rcases hS.out.1.left.2 with ⟨e, h0⟩ | ⟨g, cap, cur, e, _⟩
                    · injection e with e1 e2 e3
                      omega
                    · injection e with e; exact ⟨g, e⟩
                  obtain ⟨PA, pc, rfl, hpc⟩ := hS.out.1.pick.form
                  obtain ⟨np, hnp⟩ : ∃ n, n = p.length := ⟨_, rfl⟩
                  rw [← hnp] at hS ⊢
                  obtain ⟨j, hj⟩ : ∃ j : Nat, j = (U8 x).toNat % L := ⟨_, rfl⟩
                  have hjL : j < L := by rw [hj]; exact Nat.mod_lt _ hL0.2
                  obtain ⟨x0, x1⟩ := u8_ge x
                  have hmod : (U8 x).tmod (L : Int) = (j : Int) := by
                    rw [Int.tmod_eq_emod_of_nonneg x0, hj]
                    have e : U8 x = ((U8 x).toNat : Int) := by omega
                    rw [Int.natCast_emod, ← e]
                  have hjl : j < l.length := by rw [← hL]; exact hjL
                  obtain ⟨v, hv⟩ : ∃ v, v = l[j] := ⟨_, rfl⟩
                  have hqc : wr.cell? ⟨q, j, none⟩ = some (.int .i64 v) := by
                    have h := hS.out.1.left.cell hjl
                    rw [hv]; exact h
                  have hn1 : ¬ (L : Int) = 0 := by omega
                  have hn2 : (0 : Int) < (L : Int) := by omega
                  have hn3 : (L : Int) ≤ 60 := by omega
                  have p1 : (0 : Int) ≤ (k : Int) := by omega
                  have p2 : (k : Int) < (N : Int) := by omega
                  have p3 : (k : Int) < (Q : Int) := by have := HQ.out; omega
                  have p4 : (0 : Int) ≤ (j : Int) := by omega
                  have p5 : (j : Int) < (L : Int) := by omega
                  have HJ := Lib.hid (And.intro hjl (And.intro (show l[j]? = some v from by rw [hv]; exact List.getElem?_eq_getElem hjl) (And.intro hL (And.intro hnp (And.intro hlc hjL)))))
                  have HRz := Lib.hid (show Rd iV (wr.alloc (.cells #[.int .i64 v] 3)) (wr.heap.size + 1) (some ⟨wr.heap.size, 0, none⟩) [v] from rd1_new (f := iV) (w := wr) (E := 3) (y := v) (u := .int .i64 v) rfl)
                  have HSz := Lib.hid (show B ≤ (wr.alloc (.cells #[.int .i64 v] 3)).heap.size from Nat.le_trans hS.out.1.sz (Gw.alloc wr _).size)
                  have hml : p.length + 1 ≤ 4294967296 := by
                    have h1 := hS.out.2.2.length_eq
                    rw [List.length_append, idL_len] at h1
                    omega
                  clear hx hko hL hL0 hj hjL hv hlc hpc hnp hjl
                  go_upto_region 16 with (at_builtin; refine wp_app oneI iV_one rfl (.tmp 66) (.tmp 71) rfl B _ p rfl (hS.out.1.pick.alloc _) (some ⟨wr.heap.size, 0, none⟩) 1 1 [v] rfl rfl (wr.heap.size + 1) HRz.out hml (by decide) HSz.out ?_; intro v5 w5 ho5 hb5 hg5 hv5; have H5 := Lib.hid (show Ow iV 3 w5 B v5 (p ++ [v]) ∧ Below B (wr.alloc (.cells #[.int .i64 v] 3)) w5 ∧ (wr.alloc (.cells #[.int .i64 v] 3)).grownBy w5 (Value.slice PA np pc).ownBlock ∧ (v5.ownBlock = (Value.slice PA np pc).ownBlock ∨ v5.ownBlock = some (wr.alloc (.cells #[.int .i64 v] 3)).heap.size) from ⟨ho5, hb5, hg5, hv5⟩); clear ho5 hb5 hg5 hv5)
                  have hlp : LP w5 B (.slice (some ⟨q, 0, none⟩) L lc) v5 l (p ++ [v]) := by
                    obtain ⟨h1, h2, h3, h4⟩ := H5.out
                    have hl5 := (hS.out.1.left.alloc (.cells #[.int .i64 v] 3)).kept h3 hS.out.1.ne
                    refine ⟨hl5, h1, ?_, Nat.le_trans HSz.out h2.size⟩
                    refine .inr (fun e => ?_)
                    have e1 : (Value.slice (some ⟨q, 0, none⟩) L lc).ownBlock = some q := rfl
                    rw [e1] at e
                    rcases h4 with h4 | h4
                    · rw [h4] at e
                      rcases hS.out.1.ne with h5 | h5
                      · rw [e1] at h5; cases h5
                      · exact h5 (by rw [e1]; exact e)
                    · rw [h4] at e
                      injection e with e
                      have := (hS.out.1.left.lt q rfl).2
                      have h6 := (Gw.alloc wr (.cells #[.int .i64 v] 3)).size
                      omega
                  have H5b := Lib.hid (show Below x6.heap.size x6 w5 from (hB.out.alloc hB.out.size _).trans (H5.out.2.1.mono (by have := HB.out; omega)))
                  have HLP := Lib.hid hlp
                  have HPm := Lib.hid (show (p ++ l).Perm (idL N) ∧ L + k = N from ⟨hS.out.2.2, by have h1 := hS.out.2.1; have h2 := HJ.out.2.2.1; omega⟩)
                  obtain ⟨PA5, pc5, rfl, hpc5⟩ := hlp.pick.form
                  obtain ⟨n5, hn5⟩ : ∃ n, n = (p ++ [v]).length := ⟨_, rfl⟩
                  rw [← hn5] at HLP ⊢
                  have HN5 := Lib.hid (show n5 = np + 1 from by rw [hn5, List.length_append]; have := HJ.out.2.2.2.1; simp; omega)
                  clear hlp hpc5 hn5 H5 hcell hqc hmod hB hml HRz HSz
                  obtain ⟨XA, hXA⟩ : ∃ XA : Option Addr, XA = if lc = j + 1 then some ⟨q, 0, none⟩ else some ⟨q, j + 1, none⟩ := ⟨_, rfl⟩
                  have HXA := Lib.hid hXA
                  have HJJ := Lib.hid (show j + 1 ≤ L ∧ j + 1 ≤ lc ∧ ((j : Int) + 1).toNat = j + 1 ∧ IntKind.i64.wrap ((j : Int) + 1) = (j : Int) + 1 from ⟨by omega, by have h1 := HJ.out.2.2.2.2.1; have h2 := HJ.out.2.2.1; omega, by omega, IntWalk.i64_in _ (by omega)⟩)
                  clear hXA
                  refine region_by_spine [0, 4, 9, 10] [(1, 74, .slice (some ⟨q, 0, none⟩) L lc), (2, 75, .int .i64 j), (3, 76, .slice (some ⟨q, 0, none⟩) j lc), (5, 78, .slice (some ⟨q, 0, none⟩) L lc), (6, 79, .int .i64 j), (7, 80, .int .i64 ((j : Int) + 1)), (8, 81, .slice XA (L - (j + 1)) (lc - (j + 1)))]
                    (fun _ => True) (by kernel_rfl) (by kernel_rfl) (by kernel_rfl) (by kernel_rfl) (by kernel_rfl) trivial ?_ ?_
                  · intro y hy V ρ hV hρ hcst
                    obtain ⟨hjN, hjc, r1, r2⟩ := HJJ.out
                    have e6 : ρ (.tmp 8) = .slice (some ⟨q, 0, none⟩) L lc := (hρ 8).trans (by kernel_rfl)
                    have e18 : ρ (.tmp 12) = .int .i64 j := (hρ 12).trans (by kernel_rfl)
                    have e154 : ρ (.tmp 74) = .slice (some ⟨q, 0, none⟩) L lc := (hρ 74).trans (by kernel_rfl)
                    have e155 : ρ (.tmp 75) = .int .i64 j := (hρ 75).trans (by kernel_rfl)
                    have e158 : ρ (.tmp 78) = .slice (some ⟨q, 0, none⟩) L lc := (hρ 78).trans (by kernel_rfl)
                    have e159 : ρ (.tmp 79) = .int .i64 j := (hρ 79).trans (by kernel_rfl)
                    have e160 : ρ (.tmp 80) = .int .i64 ((j : Int) + 1) := (hρ 80).trans (by kernel_rfl)
                    clear hρ
                    simp only [List.mem_cons, List.not_mem_nil, or_false] at hy
                    rcases hy with rfl | rfl | rfl | rfl | rfl | rfl | rfl
                    all_goals
                      refine ⟨_, rfl, ?_⟩
                      go_simp
                      try (first | rfl | (intro hlt2; exact absurd hlt2 (by omega)) | (rw [if_pos ⟨by omega, by omega⟩, HXA.out]))
                  simp only [putA, putD, Act.put, List.setIfInBounds_toArray, List.set_cons_zero, List.set_cons_succ]
                  refine spine_list rfl rfl rfl ?_
                  go_wp2_with fail
                  refine ⟨rfl, trivial, ?_⟩
                  refine spine_list rfl rfl rfl ?_
                  have hb5 := Gw.alloc w5 (.cells #[] 3)
                  have hp5 := ow_empT w5
                  have hr5 : Rd iV (w5.alloc (.cells #[] 3)) (w5.alloc (.cells #[] 3)).heap.size (some ⟨q, 0, none⟩) l := by
                    have h1 := HLP.out.left
                    rw [HJ.out.2.2.1] at h1
                    exact (h1.rd.below hb5).more hb5.size
                  refine wp_app oneI iV_one rfl (.tmp 73) (.tmp 76) rfl w5.heap.size _ [] rfl (show Ow iV 3 (w5.alloc (.cells #[] 3)).drew w5.heap.size _ _ from hp5) (some ⟨q, 0, none⟩) j lc (l.take j) rfl (by rw [List.length_take]; have := HJ.out.1; omega) _ (show Rd iV (w5.alloc (.cells #[] 3)).drew _ _ _ from hr5.take j) (by rw [List.length_take]; simp only [List.length_nil]; have := HJ.out.2.2.1; omega) (by decide) (show w5.heap.size ≤ (w5.alloc (.cells #[] 3)).heap.size from hb5.size) ?_
                  intro v6 w6 ho6 hb6 hg6 hv6
                  have hbb6 : Below w5.heap.size w5 w6 := (hb5.trans ((Gw.drew _).mono hb5.size)).trans hb6
                  have hr6 : Rd iV w6 w6.heap.size XA (l.drop (j + 1)) := by
                    have h1 := HLP.out.left
                    rw [HJ.out.2.2.1] at h1
                    have h2 := ((h1.rd.below hbb6).more hbb6.size).drop (k := j + 1) (cap := lc) HJ.out.2.2.2.2.1
                    rw [HXA.out]
                    have e : (some (⟨q, 0, none⟩ : Addr)).map (·.add (j + 1)) = some ⟨q, j + 1, none⟩ := by
                      show some ((⟨q, 0, none⟩ : Addr).add (j + 1)) = _
                      rw [addr_at]
                    rw [e] at h2
                    exact h2
                  rw [List.nil_append] at ho6
                  refine ⟨rfl, trivial, ?_⟩
                  refine spine_list rfl rfl rfl ?_
                  refine wp_app oneI iV_one rfl (.tmp 77) (.tmp 81) rfl w5.heap.size _ (l.take j) rfl ho6 XA (L - (j + 1)) (lc - (j + 1)) (l.drop (j + 1)) rfl (by rw [List.length_drop, HJ.out.2.2.1]) _ hr6 (by rw [List.length_take, List.length_drop]; have := HJ.out.2.2.1; omega) (by decide) hbb6.size ?_
                  intro v7 w7 ho7 hb7 hg7 hv7
                  have hbb7 : Below w5.heap.size w5 w7 := hbb6.trans hb7
                  refine ⟨rfl, trivial, ?_⟩
                  refine spine_list rfl rfl rfl ?_
                  have HO7 := Lib.hid ho7
                  have HBB7 := Lib.hid hbb7
                  clear hb5 hp5 hr5 ho6 hb6 hg6 hv6 hbb6 hr6 ho7 hb7 hg7 hv7 hbb7
                  go_wp2_with fail
                  refine ⟨rfl, trivial, ?_⟩
                  unfold SpineW
                  have HK2 := Lib.hid (show LP w7 B v7 (.slice PA5 n5 pc5) (l.take j ++ l.drop (j + 1)) (p ++ [v]) ∧ (l.take j ++ l.drop (j + 1)).length + (k + 1) = N ∧ ((p ++ [v]) ++ (l.take j ++ l.drop (j + 1))).Perm (idL N) ∧ Below x6.heap.size x6 w7 from by
                    have hp := HLP.out.pick
                    refine ⟨⟨HO7.out.mono HLP.out.sz, hp.below HBB7.out, ?_, Nat.le_trans HLP.out.sz HBB7.out.size⟩, ?_, ?_, H5b.out.trans (HBB7.out.mono H5b.out.size)⟩
                    · cases e : v7.ownBlock with
                      | none => exact .inl rfl
                      | some c =>
                        refine .inr (fun e2 => ?_)
                        have h1 := (HO7.out.lt c e).1
                        have h2 := (hp.lt c e2.symm).2
                        omega
                    · rw [List.length_append, List.length_take, List.length_drop]
                      have h1 := HPm.out.2
                      have h2 := HJ.out.2.2.1
                      have h3 := HJ.out.1
                      omega
                    · have h1 := HPm.out.1
                      rw [drop_split HJ.out.1] at h1
                      have hv : l[j]'HJ.out.1 = v := by
                        have := HJ.out.2.1
                        rw [List.getElem?_eq_getElem HJ.out.1] at this
                        injection this
                      rw [hv] at h1
                      exact perm_step h1)
                  clear HLP H5b HO7 HBB7
                  go_wp2_with fail
                  go_roundw
                  case rel =>
                    have X : ∃ (k' : Nat) (l' p' : List Int), (Value.int .i64 ((k : Int) + 1)) = .int .i64 k' ∧ k' ≤ N ∧ Hid (LP w7 B v7 (.slice PA5 n5 pc5) l' p' ∧ l'.length + k' = N ∧ (p' ++ l').Perm (idL N)) ∧ Hid (Below x6.heap.size x6 w7) := ⟨k + 1, _, _, by go_num, by omega, Lib.hid ⟨HK2.out.1, HK2.out.2.1, HK2.out.2.2.1⟩, Lib.hid HK2.out.2.2.2⟩
                    first | exact X | exact ⟨_, _, _, _, _, _, _, _, _, _, _, _, _, _, _, _, _, _, _, _, _, _, _, _, _, _, _, _, _, _, _, _, _, _, X, rfl⟩
                  case measure => simp [Go.RowKit.intOf]; omega
                · have hl0 : l = [] := List.eq_nil_of_length_eq_zero (by have := hS.out.2.1; omega)
                  have hpp : p.Perm (idL N) := by
                    have h := hS.out.2.2
                    rw [hl0, List.append_nil] at h
                    exact h
                  obtain ⟨PA, pc, rfl, hpc⟩ := hS.out.1.pick.form
                  have hpl : p.length = N := by rw [hpp.length_eq, idL_len]
                  have hprd : Rd iV wr wr.heap.size PA p := hS.out.1.pick.rd
                  have HPP := Lib.hid (And.intro hpp (And.intro hpl hprd))
                  rw [hpl]
                  have HLb := Lib.hid hS.out.1
                  have Bb := Lib.hid (B6.out.trans (hB.out.mono B6.out.size))
                  obtain ⟨ca0, ca1⟩ := (HX.out wr Bb.out).1.two
                  have cal := (HX.out wr Bb.out).1.lt
                  clear hl0 hpp hpl hprd hpc hS
                  go_wp2_with fail
                  refine Calls.mono (HOf.out wr (HX.out wr Bb.out).2 FG.out) ?_
                  rintro r xc ⟨u2, rfl, hbc, g1, rfl, hg1, hg1n, hg1r⟩
                  have Bc := Lib.hid (Bb.out.trans (hbc.mono Bb.out.size))
                  have hf1 : FewP g1 := FG.out.same (by rw [hg1n]) hg1r
                  obtain ⟨hok, hrt⟩ := ck_ok HE0.out.symm
                  have hPk := pick_c xc g1 hg1 hf1 (by rw [hg1n]; exact hok) (by rw [hg1n, hg1r]; exact hrt) PA pc p ((HPP.out.2.2.below hbc).more hbc.size) (by rw [hg1n]; exact fun q hq => by have := idL_mem.1 (HPP.out.1.mem_iff.1 hq); rw [← HNn.out]; exact this) (HPP.out.1.nodup_iff.2 (idL_nd _)) (by rw [HPP.out.2.1]; omega)
                  rw [HPP.out.2.1, hg1n, hg1r] at hPk
                  have HPk := Lib.hid hPk
                  obtain ⟨v1, hv1⟩ : ∃ v, v = g1.v := ⟨_, rfl⟩
                  obtain ⟨GA, GN, ga, GA2, GM, ga2, eg⟩ : ∃ A N a1 A2 M a2, v1 = .agg #[.slice A N a1, .slice A2 M a2] := ⟨_, _, _, _, _, _, hv1⟩
                  rw [← hv1] at HPk ⊢
                  subst eg
                  clear hbc hg1 hg1n hg1r hf1 hok hrt hPk hv1 ca0 ca1 cal
                  go_wp2_with fail
                  refine Calls.mono HPk.out ?_
                  rintro r xd ⟨gp, tq, rfl, hgo, _, hpm, hpr, hbd⟩
                  obtain ⟨XA, xcap, XA2, xcap2, xs, xr⟩ := gp
                  simp only at hpm hpr
                  obtain ⟨xn, hxn⟩ : ∃ n, n = xs.length := ⟨_, rfl⟩
                  obtain ⟨xm, hxm⟩ : ∃ n, n = xr.length := ⟨_, rfl⟩
                  have Bd := Lib.hid (Bc.out.trans (hbd.mono Bc.out.size))
                  unfold Gv.v Gv.vn Gv.vr
                  simp only
                  rw [← hxn, ← hxm]
                  have HXP := Lib.hid (And.intro hpm (And.intro hpr (And.intro hxn hxm)))
                  have HGo := Lib.hid hgo
                  clear hpm hpr hxn hxm hgo HPk
                  go_wp2_with fail
                  obtain ⟨E, he⟩ : ∃ E : Nat, E = mo.toNat % 5 := ⟨_, rfl⟩
                  have hmo : mo.tmod 5 = (E : Int) := by
                    obtain ⟨m0, m1⟩ := HM8.out
                    rw [Int.tmod_eq_emod_of_nonneg m0, he]; omega
                  have he4 : (E : Int) ≤ 4 := by omega
                  clear he
                  obtain ⟨sx, hsx⟩ : ∃ s, s = xd.heap.size := ⟨_, rfl⟩
                  obtain ⟨y0, hy0⟩ : ∃ W, W = xd.alloc (.cells #[.slice XA xn xcap, .slice XA2 xm xcap2] 32) := ⟨_, rfl⟩
                  rw [← hsx, ← hy0]
                  have h30 : X3 y0 x2 xc.heap.size sx XA XA2 xcap xcap2 xm xn xs xr := by
                    rw [hy0, hsx]
                    exact ⟨HGo.out.below (Gw.alloc xd _), Bk.new xd _ _, Bd.out.trans ((Gw.alloc xd _).mono Bd.out.size)⟩
                  have H30 := Lib.hid h30
                  have HSX := Lib.hid (show x2.heap.size ≤ xc.heap.size ∧ xc.heap.size ≤ sx from ⟨Bc.out.size, by rw [hsx]; exact hbd.size⟩)
                  have hxn60 : (xn : Int) ≤ 60 := by
                    have h1 := congrArg List.length HXP.out.1
                    rw [List.length_map] at h1
                    unfold pickN at h1
                    rw [List.length_map, HPP.out.2.1] at h1
                    have h2 := HXP.out.2.2.1
                    omega
                  clear h30 hsx hy0 hbd
                  go_loopw [15] (fun i W => ∃ (k m : Nat) (VA : Option Addr) (vc : Nat) (ex : List Nv), i = .int .i64 k ∧ k ≤ E ∧ m = xn + k ∧ Hid (X3 W x2 xc.heap.size sx VA XA2 vc xcap2 xm m (xs ++ ex) xr) ∧ Hid (ex.length = k ∧ ∀ x ∈ ex, x.bs = [] ∧ x.ps.length ≤ 1 ∧ ∀ p ∈ x.ps, 0 ≤ p ∧ p ≤ 1000)) (fun i _ => E - (Go.RowKit.intOf i).toNat)
                  case atStart => exact ⟨0, xn, XA, xcap, [], rfl, Nat.zero_le _, rfl, by rw [List.append_nil]; exact H30, Lib.hid ⟨rfl, fun x hx => by cases hx⟩⟩
                  case round =>
                    clear H30
                    obtain ⟨k, m, VA, vc, ex, rfl, hk, hm, hS, hE⟩ := hrel
                    by_cases hlt : k < E
                    · have p1 : (0 : Int) ≤ (k : Int) := by omega
                      have p2 : (k : Int) < (E : Int) := by omega
                      have p3 : (0 : Int) ≤ (N : Int) := by omega
                      obtain ⟨r, hr⟩ : ∃ r, r = k % (N + 1) := ⟨_, rfl⟩
                      have hrm : (k : Int).tmod ((N : Int) + 1) = (r : Int) := by
                        rw [Int.tmod_eq_emod_of_nonneg p1, hr]; exact (Int.natCast_emod k (N + 1)).symm
                      have hr60 : (r : Int) ≤ 60 := by
                        have : r < N + 1 := by rw [hr]; exact Nat.mod_lt _ (by omega)
                        omega
                      have r0 : (0 : Int) ≤ (r : Int) := by omega
                      have m0 : (0 : Int) ≤ (m : Int) := by omega
                      have hm100 : (m : Int) ≤ 100 := by omega
                      have hq0 : wr.drew.cell? ⟨sx, 0, none⟩ = some (.slice VA m vc) := (hS.out.bk.below (Gw.drew wr) hS.out.bk.lt).cell 0
                      have hn1 : ¬ ((N : Int) + 1 = 0) := by omega
                      have HMm := Lib.hid hm
                      clear hr hm
                      go_wp2_with fail
                      refine region_by_spineU 12 [7, 8, 9, 10, 11, 12] [(0, 97, .pointer (some ⟨sx, 0, none⟩)), (1, 98, .slice VA m vc), (2, 99, .int .i64 k), (3, 100, .int .i64 N), (4, 101, .int .i64 ((N : Int) + 1)), (5, 102, .int .i64 r), (6, 103, .int .i64 (1 + (r : Int)))]
                        (fun W => W.cell? ⟨sx, 0, none⟩ = some (.slice VA m vc)) (by kernel_rfl) (by kernel_rfl) (by kernel_rfl) (by kernel_rfl) (by kernel_rfl) (by kernel_rfl) (by kernel_rfl) hq0 ?_ ?_
                      · intro y hy V ρ hV hρ hcst
                        have e7 : ρ (.tmp 7) = .int .i64 N := (hρ 7).trans (by kernel_rfl)
                        have e13 : ρ (.tmp 13) = .pointer (some ⟨sx, 0, none⟩) := (hρ 13).trans (by kernel_rfl)
                        have e15 : ρ (.tmp 15) = .int .i64 k := (hρ 15).trans (by kernel_rfl)
                        have e97 : ρ (.tmp 97) = .pointer (some ⟨sx, 0, none⟩) := (hρ 97).trans (by kernel_rfl)
                        have e99 : ρ (.tmp 99) = .int .i64 k := (hρ 99).trans (by kernel_rfl)
                        have e100 : ρ (.tmp 100) = .int .i64 N := (hρ 100).trans (by kernel_rfl)
                        have e101 : ρ (.tmp 101) = .int .i64 ((N : Int) + 1) := (hρ 101).trans (by kernel_rfl)
                        have e102 : ρ (.tmp 102) = .int .i64 r := (hρ 102).trans (by kernel_rfl)
                        clear hρ
                        simp only [List.mem_cons, List.not_mem_nil, or_false] at hy
                        rcases hy with rfl | rfl | rfl | rfl | rfl | rfl | rfl
                        all_goals
                          refine ⟨_, rfl, ?_⟩
                          go_simp
                          try (first | rfl | exact IntWalk.i64_in _ (by omega))
                      simp only [putA, putD, Act.put, List.setIfInBounds_toArray, List.set_cons_zero, List.set_cons_succ]
                      refine spineU_list rfl rfl rfl ?_
                      clear hrm hn1
                      go_wp2_with fail
                      obtain ⟨W1, e1⟩ : ∃ W1, W1 = ((wr.alloc (.cells #[.int .i64 (1 + (r : Int))] 3)).alloc (.cells #[.slice (some ⟨wr.heap.size, 0, none⟩) 1 1, .slice none 0 0] 49)).drew := ⟨_, rfl⟩
                      have hpre := x3_pre wr (1 + (r : Int))
                      have hbk1 := hS.out.bk.below ((Gw.drew wr).trans ((Gw.alloc wr.drew (.cells #[.int .i64 (1 + (r : Int))] 3)).mono (Gw.drew wr).size)) hS.out.bk.lt
                      have hc1 := hbk1.cell 0
                      rw [← e1] at hpre
                      have hbk2 := hS.out.bk.below hpre hS.out.bk.lt
                      have hc2 := hbk2.cell 0
                      have E1 := Lib.hid e1
                      have HPre := Lib.hid hpre
                      clear e1 hpre hbk1 hbk2
                      refine ⟨rfl, (by first | exact hc1 | exact fun _ => hc1), ?_⟩
                      refine spineU_list rfl rfl rfl ?_
                      go_wp2_with fail
                      refine ⟨rfl, (by first | exact hc1 | exact fun _ => hc1), ?_⟩
                      refine spineU_list rfl rfl rfl ?_
                      go_wp2_with fail
                      rw [show ((wr.alloc (.cells #[.int .i64 (1 + (r : Int))] 3)).alloc (.cells #[.slice (some ⟨wr.heap.size, 0, none⟩) 1 1, .slice none 0 0] 49)).drew = W1 from E1.out.symm]
                      refine ⟨rfl, (by first | exact hc2 | exact fun _ => hc2), ?_⟩
                      refine spineU_list rfl rfl rfl ?_
                      obtain ⟨i0, hi, hz0, hz1, hz2⟩ := info_parts infoN7
                      have ho3 : W1.ownsRow xc.heap.size 49 2 (.slice VA m vc) m ((xs ++ ex).flatMap Nv.cs) := by
                        have h := (hS.out.go.below HPre.out).nd.row
                        have hl : (xs ++ ex).length = m := by
                          rw [List.length_append]
                          have h1 := HXP.out.2.2.1
                          have h2 := hE.out.1
                          have h3 := HMm.out
                          omega
                        have h' : W1.ownsRow xc.heap.size 49 2 (.slice VA (xs ++ ex).length vc) (xs ++ ex).length ((xs ++ ex).flatMap Nv.cs) := h
                        rw [hl] at h'
                        exact h'
                      have hE3 : Bk W1 (wr.heap.size + 1) 49 #[.slice (some ⟨wr.heap.size, 0, none⟩) 1 1, .slice none 0 0] := by
                        rw [E1.out]
                        have k1 := Bk.new (wr.alloc (.cells #[.int .i64 (1 + (r : Int))] 3)) 49 #[.slice (some ⟨wr.heap.size, 0, none⟩) 1 1, .slice none 0 0]
                        simp only [World.size_alloc] at k1
                        exact k1
                      refine wp_appR 2 i0 Tryd.underlying29 hi hz0 hz1 hz2 (by rfl) (by decide) rfl (.tmp 98) (.tmp 106) rfl xc.heap.size _ m _ rfl ho3 ⟨wr.heap.size + 1, 0, none⟩ 1 1 [.slice (some ⟨wr.heap.size, 0, none⟩) 1 1, .slice none 0 0] rfl rfl (two_news hE3) (fun u hu => ?_) (by unfold maxLen; omega) (by omega) (by have h1 := HSX.out.2; have h2 := hS.out.bk.lt; have h3 := HPre.out.size; omega) ?_
                      · simp only [List.mem_cons, List.not_mem_nil, or_false] at hu
                        rcases hu with rfl | rfl <;> rfl
                      intro v5 w5 ho5 hb5 hg5 _
                      obtain ⟨A5, c5, rfl⟩ := own_form ho5
                      have hl : m = (xs ++ ex).length := by
                          rw [List.length_append]
                          have h1 := HXP.out.2.2.1
                          have h2 := hE.out.1
                          have h3 := HMm.out
                          omega
                      have h5 := X3.step hS.out hl HSX.out.1 HSX.out.2 E1.out ho5 hb5 hg5
                      rw [List.append_assoc] at h5
                      have hbk5 : Bk w5 sx 32 #[.slice VA m vc, .slice XA2 xm xcap2] := (hg5.block _ (hS.out.bk.below HPre.out hS.out.bk.lt).lt (fun e => row_ne_bk ho3 (hS.out.bk.below HPre.out hS.out.bk.lt) (by decide) _ e.symm rfl)).trans (hS.out.bk.below HPre.out hS.out.bk.lt)
                      have hc5 := hbk5.cell 0
                      have hf5 := hbk5.free 0
                      have H5 := Lib.hid h5
                      clear hi hz0 hz1 hz2 ho3 hE3 ho5 hb5 hg5 hl h5 hbk5 hc1 hc2
                      refine ⟨rfl, (by first | exact hc5 | exact fun _ => hc5), ?_⟩
                      refine spineU_list rfl rfl rfl ?_
                      go_wp2_with fail
                      refine ⟨rfl, (by first | exact hc5 | exact fun _ => hc5), ?_⟩
                      refine spineU_list rfl rfl rfl ?_
                      go_wp2_with fail
                      refine ⟨rfl, trivial, ?_⟩
                      unfold SpineU
                      have HX9 := Lib.hid (show ∃ (k' m' : Nat) (VA' : Option Addr) (vc' : Nat) (ex' : List Nv), (Value.int .i64 ((k : Int) + 1)) = .int .i64 k' ∧ k' ≤ E ∧ m' = xn + k' ∧ Hid (X3 (w5.setCell ⟨sx, 0, none⟩ (.slice A5 (m + 1) c5)) x2 xc.heap.size sx VA' XA2 vc' xcap2 xm m' (xs ++ ex') xr) ∧ Hid (ex'.length = k' ∧ ∀ x ∈ ex', x.bs = [] ∧ x.ps.length ≤ 1 ∧ ∀ p ∈ x.ps, 0 ≤ p ∧ p ≤ 1000) from ⟨k + 1, m + 1, A5, c5, _, by go_num, by omega, by have := HMm.out; omega, H5, Lib.hid ⟨by rw [List.length_append, hE.out.1]; rfl, fun x hx => by
                        rcases List.mem_append.1 hx with hx | hx
                        · exact hE.out.2 x hx
                        · obtain rfl := List.mem_singleton.1 hx
                          refine ⟨rfl, Nat.le_refl _, fun p hp => ?_⟩
                          obtain rfl := List.mem_singleton.1 hp
                          omega⟩⟩)
                      clear H5 hc5 hf5
                      go_wp2_with fail
                      go_roundw
                      case rel =>
                        have X := HX9.out
                        first | exact X | exact ⟨_, _, _, _, _, _, _, _, _, _, _, _, _, _, _, _, _, _, _, X, rfl⟩
                      case measure => simp [Go.RowKit.intOf]; omega
                    · have hkE : k = E := by omega
                      have hlm : m = (xs ++ ex).length := by
                        rw [List.length_append]
                        have h1 := HXP.out.2.2.1
                        have h2 := hE.out.1
                        omega
                      have hex10 : ex.length ≤ 10 := by have h2 := hE.out.1; omega
                      obtain ⟨gx, hgx⟩ : ∃ gx : Gv, gx = ⟨VA, vc, XA2, xcap2, xs ++ ex, xr⟩ := ⟨_, rfl⟩
                      have hgn : gx.n = xs ++ ex := by rw [hgx]
                      have hgr : gx.r = xr := by rw [hgx]
                      have hgv : gx.v = .agg #[.slice VA m vc, .slice XA2 xm xcap2] := by
                        rw [hgx, hlm, HXP.out.2.2.2]; rfl
                      have hpp : p.Perm (idL g.n.length) := by rw [← HNn.out]; exact HPP.out.1
                      have okx : CanOk gx := can_okY HE0.out.symm FG.out hpp HXP.out.1 HXP.out.2.1 hgn hgr hex10 hE.out.2
                      have hTo := to_c wr gx (by rw [hgx]; exact hS.out.go.at_) okx.small
                      rw [hgv] at hTo
                      have HTo := Lib.hid hTo
                      have HG3 := Lib.hid (And.intro hgn (And.intro hgr (And.intro hpp hex10)))
                      obtain ⟨ca0, ca1⟩ := hS.out.bk.two
                      have cal := hS.out.bk.lt
                      clear hgn hgr hgv hpp okx hTo hgx hex10 hlm hm
                      go_wp2_with fail
                      refine Calls.mono HTo.out ?_
                      rintro r xe ⟨y, rfl, hyat, hyn, hyr, hbe⟩
                      have hpu := turned_pure (y := y) HE0.out.symm HG3.out.2.2.1 HXP.out.1 HXP.out.2.1 (hyn.trans HG3.out.1) (hyr.trans HG3.out.2.1)
                      have oky : CanOk y := can_okY HE0.out.symm FG.out HG3.out.2.2.1 HXP.out.1 HXP.out.2.1 (hyn.trans HG3.out.1) (hyr.trans HG3.out.2.1) HG3.out.2.2.2 hE.out.2
                      have Be := Lib.hid (hS.out.bl.trans (hbe.mono hS.out.bl.size))
                      have HY := Lib.hid (And.intro hyat (And.intro hpu oky))
                      obtain ⟨vy, hvy⟩ : ∃ v, v = y.v := ⟨_, rfl⟩
                      obtain ⟨YA, K, b1, YA2, L, b2, ey⟩ : ∃ A N a1 A2 M a2, vy = .agg #[.slice A N a1, .slice A2 M a2] := ⟨_, _, _, _, _, _, hvy⟩
                      rw [← hvy]
                      subst ey
                      have HVY := Lib.hid hvy.symm
                      clear hyat hyn hyr hbe hpu oky hvy ca0 ca1 cal hlt hkE HTo
                      go_wp2_with fail
                      obtain ⟨xf, hxf⟩ : ∃ W, W = xe.alloc (.cells #[.slice YA K b1, .slice YA2 L b2] 25) := ⟨_, rfl⟩
                      have ky : Bk xf xe.heap.size 25 #[.slice YA K b1, .slice YA2 L b2] := by rw [hxf]; exact Bk.new xe _ _
                      have hef : Below xe.heap.size xe xf := by rw [hxf]; exact Gw.alloc xe _
                      have bf : Below x2.heap.size x2 xf := Be.out.trans (hef.mono Be.out.size)
                      have hga := GBx.of (HX.out xf bf).1 (HAt.out.up (HX.out xf bf).2)
                      have hgy := GBx.of ky (HY.out.1.up hef)
                      have htt : ∀ W, Below xf.heap.size xf W → W.cell? ⟨2, 15, none⟩ = some (.int .u8 4) := fun W h => HT.out W ((HX.out xf bf).2.trans (h.mono (HX.out xf bf).2.size))
                      rw [← hxf]
                      clear hxf ky hef
                      obtain ⟨T, hT⟩ : ∃ T, T = textL (canR g) (canM g) := ⟨_, rfl⟩
                      have HTt := Lib.hid hT.symm
                      clear hT
                      refine ct23 _ _ _ sa xe.heap.size g y A A2 YA YA2 N M K L a1 a2 b1 b2 T HV.out HVY.out FG.out HE0.out.symm HY.out.2.2 (Lib.hid HY.out.2.1) (Lib.hid hga) (Lib.hid hgy) HTt (Lib.hid htt) rfl ?_ ?_ ?_
                      · rfl
                      · rfl
                      intro vals z hG h6
                      unfold IsV at h6
                      simp only [putD, Act.put, List.setIfInBounds_toArray, List.set_cons_zero, List.set_cons_succ, h6]
                      have HZ := Lib.hid ((HX.out xf bf).2.trans (hG.mono (HX.out xf bf).2.size))
                      clear hG h6 hga hgy bf htt
                      go_wp2_with fail
                      go_ret
                      exact ⟨rfl, HZ.out⟩
    · have e1 : (E0 != 0) = true := by simpa using hE
      clear hE
      go_wp2_with fail
      go_ret
      exact ⟨rfl, (HX.out x6 B6.out).2⟩
end Go.Proofs.YtdppnggchpchgaaDoor
namespace Go.Proofs.YtdppnggchpchgaaDoor.canonTurned
open Go.ChangeShapes Go.WideShapes Go.ChangeAt Go.RowKit
open Go.ChangeMaps (open_string shut_string)
set_option linter.unusedVariables false
set_option maxRecDepth 100000 in
theorem lifted (os : Os) (started : os.Started) (H : Type) (enc : TypeId × Value → H) :
    ReturnsInHanded {} Tryd.checked os 5 .any (fun w args => (Rows.canonTurnedSpec.pre enc Tryd.prog Tryd.f5 [] false w args ∧ laidMetH Tryd.prog laid18 w) ∧ sizedMet enc Tryd.prog Tryd.f5 (OpenSpec.ofChange Rows.canonTurnedSpec) false w args) (Rows.canonTurnedSpec.post enc Tryd.prog Tryd.f5 false true false false) := by
  refine returnsInHanded_of_change_and (C := Tryd.checked) (X := fun w _ => laidMetH Tryd.prog laid18 w) (fun _ _ _ hh h => h.of_heap hh) own started (by kernel_rfl) Tryd.func5
    (ChangeSpec.witness_shaped (enc := enc) (C := Tryd.checked) (os := os) (X := fun w _ => laidMetH Tryd.prog laid18 w) false (World.doorLaid Tryd.prog 24 os) #[.agg #[.slice none 0 0, .slice none 0 0], .slice none 0 0, .int .u8 0] 8 rfl (World.shaped_of_RefB (by kernel_rfl) (by kernel_rfl)) (by kernel_rfl) (by kernel_rfl) (by kernel_rfl) (door_met os _)) ?_
  intro W base args ds gs before hval0 hW _ _ hL _
  have hLd := of_laid hL
  have hval : ∀ (j : Nat) t v, Tryd.f5.params[j]? = some t → args[j]? = some v → Value.okWide Tryd.prog W .any base t v := hval0
  have hW' := hW
  obtain ⟨p, q, hA0, hV, rfl, hfz, hnd⟩ := hW
  have hA : DataW.TrodAll enc Tryd.prog W 0 (fun _ => true) true Tryd.f5.params.toList args.toList ds p := hA0
  rw [Tryd.params5] at hA hval
  obtain ⟨v0, vs0, d0, ds0, p0, q0, hargs, rfl, rfl, h0, r0⟩ := trodAll_cons hA
  obtain ⟨v1, vs1, d1, ds1, p1, q1, rfl, rfl, rfl, h1, r1⟩ := trodAll_cons r0
  obtain ⟨v2, vs2, d2, ds2, p2, q2, rfl, rfl, rfl, h2, r2⟩ := trodAll_cons r1
  obtain ⟨rfl, rfl, rfl⟩ := trodAll_nil r2
  obtain rfl : args = #[v0, v1, v2] := by cases args; simp_all
  obtain ⟨rfl, rfl⟩ := trodVars_none hV
  have k0 := h0
  have lt0 : ∀ x ∈ p0, x.block < W.heap.size := by obtain ⟨m, hm⟩ := k0; exact DataW.trod_lt m _ _ _ hm
  obtain ⟨a0, e0v, w0⟩ := open_str_Graph (hval 0 25 v0 rfl rfl) h0; subst e0v
  have k1 := h1
  have lt1 : ∀ x ∈ p1, x.block < W.heap.size := by obtain ⟨m, hm⟩ := k1; exact DataW.trod_lt m _ _ _ hm
  obtain ⟨A1, a1, c1, e1v, g1, m1, w1⟩ := open_bytes Tryd.underlying45 Tryd.underlying5 (by kernel_rfl) (hval 1 45 v1 rfl rfl) h1; subst e1v
  have k2 := h2
  have lt2 : ∀ x ∈ p2, x.block < W.heap.size := by obtain ⟨m, hm⟩ := k2; exact DataW.trod_lt m _ _ _ hm
  obtain ⟨a2, e2v, _, _, w2⟩ := open_int Tryd.underlying5 (hval 2 5 v2 rfl rfl) h2; subst e2v
  clear hA0 hval0
  refine (turned18_walk W hLd a0 w0 A1 a1 c1 g1 m1 w1 a2 w2).mono fun e W' ⟨he, bel⟩ => ?_
  subst he
  exact ⟨_, rfl, _, _, _, [], _, [], hW', trodAll_mk1 (shut_bool Tryd.underlying4 _), (trodAll_cons_mk (Below.trod laidOut (by kernel_rfl) (of_decide_eq_true (by kernel_rfl)) k0 bel lt0) (trodAll_cons_mk (Below.trod laidOut (by kernel_rfl) (of_decide_eq_true (by kernel_rfl)) k1 bel lt1) (trodAll_cons_mk (Below.trod laidOut (by kernel_rfl) (of_decide_eq_true (by kernel_rfl)) k2 bel lt2) trodAll_mk0))), rfl, bel.frame _, fun h => by cases h⟩
theorem over : Rows.canonTurnedRow.holds Tryd.pinned (OpenSpec.ofChange Rows.canonTurnedSpec) :=
  OpenClaim.holds_of_wide 5 Tryd.f5 rfl rfl rfl rfl rfl rfl rfl ⟨rfl, rfl, rfl, rfl, rfl⟩ rfl rfl rfl rfl rfl (by kernel_rfl) Tryd.func5 (by kernel_rfl)
    (of_decide_eq_true (by kernel_rfl)) (by unfold Func.isWrapper; first | (rw [if_pos (by decide +kernel)]; kernel_rfl) | (rw [if_neg (by decide +kernel)]; exact ⟨rfl, rfl⟩))
    (fun os started H enc _ => lifted os started H enc)
theorem proved : Rows.CanonTurnedCardSaid :=
  Claim7.holds_tied_plain_at .later [] [.data, .data, .data] true (true, "951687fa000d9c105ddb988a2098679cd808f61cc62620e067a1f545dd23d005") false over (fun _ h => by cases h) (by kernel_rfl) (fun _ h => by cases h) canonTurned_row_tie rfl ⟨rfl, rfl⟩ (by kernel_rfl) rfl
    (fun f fn hf hfn => by
      obtain rfl : f = 5 := Option.some.inj ((show Tryd.prog.funcNamed Rows.canonTurnedRow.func = some 5 by kernel_rfl).symm.trans hf) |>.symm
      obtain rfl : fn = Tryd.f5 := (Option.some.inj (Tryd.func5.symm.trans hfn)).symm
      exact ⟨by kernel_rfl, fun j t ht => by
        rw [Tryd.params5] at ht
        have hm : t ∈ [25, 45, 5] := by simpa using Array.mem_of_getElem? ht
        have hall : ([25, 45, 5].all fun u => !Tryd.prog.wantsStandIn u) = true := by kernel_rfl
        exact (show Tryd.prog.wantsStandIn t = false by simpa using List.all_eq_true.1 hall t hm)⟩)
    (by kernel_rfl)
end Go.Proofs.YtdppnggchpchgaaDoor.canonTurned
