/- Texts joined: DcB CrcB CrcC CrcR CrcE Known2 CrcF OpenP. -/
import Derived.Test.YtkkjnahjmomjgaaWa4
import Derived.Test.YtkkjnahjmomjgaaGrO
import Derived.Laws.ResultCell
import Derived.Laws.Rows
import Derived.Test.YtkkjnahjmomjgaaCrcA
import Derived.Deep.RegionHeld3
import Derived.Test.YtkkjnahjmomjgaaCrcD
import Derived.Test.YtkkjnahjmomjgaaRegV
import Derived.LoopTactic
import Derived.Test.YtkkjnahjmomjgaaStr
import Derived.Lib.SmallJoins
import Derived.Test.YtkkjnahjmomjgaaFrame
import Derived.Deep.Matrix
/- image.readNode. Conditions: an object that is well. -/
namespace Go.Proofs.Ytkkjnahjmomjgaa
set_option linter.unusedVariables false
set_option linter.unusedSimpArgs false
open Go.RowKit Go.Maps
set_option maxHeartbeats 8000000
set_option maxRecDepth 100000
/-- A result that is a struct of two cells, and a number. -/
theorem res2 {fn : Func} {p u : Tmp} {ty : TypeId} {tmps : Array Value} {W : World} {g : Nat} {v y : Value} (h : fn.results = #[.cell p ty, .tmp u]) (hl : (loadVar ty ⟨g, 0, none⟩).run Try.prog W = .ok v W) (h2 : tmps.getD p undef = .pointer (some ⟨g, 0, none⟩)) (h3 : tmps.getD u undef = y) :
    (results fn tmps).run Try.prog W = .ok (.tuple #[v, y]) W := by
  rw [results_cell_tmp h, h2]
  simp [asAddr, Result.andThen, hl, h3]
theorem two_set {W : World} {g : Nat} {E : TypeId} {a b a' b' : Value} (h : Bk W g E #[a, b]) : Bk ((W.setCell ⟨g, 0, none⟩ a').setCell ⟨g, 1, none⟩ b') g E #[a', b'] := by
  have k := (h.set 0 a').set 1 b'
  simpa using k
theorem two_below {W w : World} {B g : Nat} {a' b' : Value} (h : Below B w W) (hg : B ≤ g) : Below B w ((W.setCell ⟨g, 0, none⟩ a').setCell ⟨g, 1, none⟩ b') :=
  (h.setCell (p := ⟨g, 0, none⟩) hg _).setCell (p := ⟨g, 1, none⟩) hg _
/-- What readNode answers. -/
def NodeP (w : World) (d : Nv) (r : Ending) (w' : World) : Prop :=
  ∃ x : Nv, r = .returned (.tuple #[x.v, .int .i64 0]) ∧ normN x = d ∧ Ow iV 3 w' w.heap.size x.vp x.ps ∧ Ow b8 5 w' w.heap.size x.vd x.bs ∧ (∀ k, x.vp.ownBlock = some k → x.vd.ownBlock ≠ some k) ∧ Below w.heap.size w w'
theorem ptr_well {ws : List (BitVec 64)} {l : List Nat} {b t a k : Nat} (hl : ∀ y ∈ l, b ≤ y ∧ y < t) (h : ptrN ws l a k = true) : pokB b t (ws.getD (a + 1 + k) 0#64) = true ∧ (ws.getD (a + 1 + k) 0#64).toNat ≤ t := by
  have h := of_decide_eq_true h
  unfold pokB
  rcases h with h | ⟨h1, h2⟩
  · exact ⟨decide_eq_true (.inl h), by omega⟩
  · have h3 := hl _ h2
    exact ⟨decide_eq_true (.inr ⟨by omega, by omega⟩), by omega⟩
theorem readNode_c (w : World) (B s g mb : Nat) (v : Value) (ws : List (BitVec 64)) (b t e : Nat) (sp : SpAt w B s g v ws b t e) (h8 : ws.length ≤ 8192) (l : List Nat) (hm : MapIs w (some mb) (numM l)) (hlb : ∀ y ∈ l, b ≤ y ∧ y < t) (a : Nat) (ha1 : b ≤ a) (ha2 : a < t) (hg : goodX (ws.getD a 0#64) (t - a) = true) (hw : wellN ws l a = true) :
    Calls Try.prog 99 #[.pointer (some ⟨s, 0, none⟩), .int .i64 (a : Int), .map (some mb)] w (NodeP w (dNode ws l a)) := by
  obtain ⟨x, hx⟩ : ∃ x, x = ws.getD a 0#64 := ⟨_, rfl⟩
  have hgx := hg
  rw [← hx] at hgx
  obtain ⟨hv, hP64, hB1024, hsx, hsz, hroom⟩ := head_of hgx
  have htl : t ≤ ws.length := Nat.le_trans sp.te sp.el
  have hal : a < ws.length := by omega
  have hHd := fun W (q : SpAt W B s g v ws b t e) => sphead_in W B s g v ws b t e q a ha1 ha2 (by omega) hal
  have hxe : ws[a] = x := by rw [hx, List.getD_eq_getElem?_getD, List.getElem?_eq_getElem hal]; rfl
  rw [hxe, hv] at hHd
  have HHd := Lib.hid hHd
  obtain ⟨P, hP⟩ : ∃ P, P = P0 x := ⟨_, rfl⟩
  obtain ⟨n, hn⟩ : ∃ P, P = B0 x := ⟨_, rfl⟩
  rw [← hP, ← hn] at HHd
  rw [← hP] at hP64
  rw [← hn] at hB1024
  unfold wellN at hw
  rw [Bool.and_eq_true, List.all_eq_true] at hw
  have hpt := hw.1
  obtain ⟨ps, hps⟩ : ∃ ps, ps = (List.range P).map (fun k => numV l (((ws.getD (a + 1 + k) 0#64).toNat : Int) - 1)) := ⟨_, rfl⟩
  have hpl : ps.length = P := by rw [hps]; simp
  obtain ⟨bs, hbs⟩ : ∃ bs, bs = bytesM ws (8 * (a + 1 + P) + 0) n := ⟨_, rfl⟩
  have hd : dNode ws l a = ⟨none, 0, none, 0, ps, bs⟩ := by unfold dNode; rw [← hx, ← hP, ← hn, ← hps, ← hbs]
  rw [hd]
  have HPt := Lib.hid (fun W (q : SpAt W B s g v ws b t e) (k : Nat) (hk : k < P) => show Calls Try.prog 109 #[.pointer (some ⟨s, 0, none⟩), .int .i64 a, .int .i64 k] W (RetP (.tuple #[.int .i64 (((ws.getD (a + 1 + k) 0#64).toNat : Int) - 1), .int .i64 0]) W) from by
    have h1 := Ptr_c W B s g v ws b t e q h8 a k ha1 ha2 hg (by rw [← hx, ← hP]; exact hk)
    have h2 := ptr_well (b := b) (t := t) hlb (hpt k (List.mem_range.2 (by rw [← hx, ← hP]; exact hk)))
    obtain ⟨e1, e2⟩ := pt_yes h2.1
    rw [e1, e2] at h1
    exact h1)
  have HRd := Lib.hid (fun W (q : SpAt W B s g v ws b t e) => show Calls Try.prog 111 #[.pointer (some ⟨s, 0, none⟩), .int .i64 a, .int .i64 0, .int .i64 n] W (MkEP b8 5 bs 0 W) from by
    have h1 := read_ok W B s g v ws b t e q (by omega) a 0 n ha1 ha2 hg (by rw [← hx, ← hn]; omega)
    rw [← hx, ← hP, ← hbs] at h1
    exact h1)
  have HV := Lib.hid (fun k (hk : k < P) => show ps[k]? = some (numV l (((ws.getD (a + 1 + k) 0#64).toNat : Int) - 1)) ∧ (ws.getD (a + 1 + k) 0#64).toNat ≤ 8192 from by
    refine ⟨?_, ?_⟩
    · rw [hps, List.getElem?_map, List.getElem?_range hk]; rfl
    · have h2 := ptr_well (b := b) (t := t) hlb (hpt k (List.mem_range.2 (by rw [← hx, ← hP]; exact hk)))
      omega)
  have HM := Lib.hid hm
  have HSp := Lib.hid sp
  have HPl := Lib.hid (And.intro hpl hP64)
  have aI : (a : Int) ≤ 8192 := by omega
  have PI : (P : Int) ≤ 64 := by omega
  have nI : (n : Int) ≤ 1024 := by omega
  clear hx hgx hg hv hsx hsz hroom hal hHd hxe hP hn hw hpt hps hpl hbs hd hm sp hlb htl ha1 ha2 h8 hP64 hB1024
  go_enter Try.func99, Try.ntmps99
  go_wp2_with fail
  obtain ⟨Rb, hRb⟩ : ∃ R, R = w.heap.size := ⟨_, rfl⟩
  obtain ⟨w1, hw1⟩ : ∃ W, W = w.alloc (.cells #[.slice none 0 0, .slice none 0 0] 54) := ⟨_, rfl⟩
  have hbk : Bk w1 Rb 54 #[.slice none 0 0, .slice none 0 0] := by rw [hw1, hRb]; exact Bk.new w _ _
  have b1 : Below w.heap.size w w1 := by rw [hw1]; exact Gw.alloc w _
  rw [← hw1, ← hRb]
  have H1 := Lib.hid (And.intro hbk b1)
  have HFr := Lib.hid (Nat.le_of_eq hRb.symm)
  clear hw1 hRb hbk b1
  refine Calls.mono (HHd.out w1 (HSp.out.below H1.out.2)) ?_
  rintro r w2 ⟨rfl, b2⟩
  have H2 := Lib.hid (And.intro (H1.out.1.below b2 H1.out.1.lt) (H1.out.2.trans (b2.mono H1.out.2.size)))
  clear b2 H1
  go_wp2_with fail
  obtain ⟨Hb, hHb⟩ : ∃ H, H = w2.heap.size := ⟨_, rfl⟩
  obtain ⟨w3, hw3⟩ : ∃ w3', w3' = w2.alloc (.cells #[.int .i64 (P : Int), .int .i64 (n : Int), .bool false, .int .i64 0] 112) := ⟨_, rfl⟩
  have hbk : Bk w3 Hb 112 #[.int .i64 (P : Int), .int .i64 (n : Int), .bool false, .int .i64 0] := by rw [hw3, hHb]; exact Bk.new w2 _ _
  have b23 : Below w2.heap.size w2 w3 := by rw [hw3]; exact Gw.alloc w2 _
  have z3 : w3.heap.size = Hb + 1 := by rw [hw3, hHb]; unfold World.alloc; simp
  have H3 := Lib.hid (And.intro (H2.out.1.below b23 H2.out.1.lt) (And.intro (H2.out.2.trans (b23.mono H2.out.2.size)) (And.intro hbk (And.intro (show Rb < Hb from by rw [hHb]; exact H2.out.1.lt) z3))))
  rw [← hw3, ← hHb]
  clear hw3 hHb hbk b23 z3 H2
  obtain ⟨Nb, hNc⟩ : ∃ N, N = Hb + 1 := ⟨_, rfl⟩
  have hNb : Nb = w3.heap.size := by rw [hNc, H3.out.2.2.2.2]
  obtain ⟨w4, hw4⟩ : ∃ W, W = w3.alloc (.cells #[.slice none 0 0, .slice none 0 0] 54) := ⟨_, rfl⟩
  have hbk : Bk w4 Nb 54 #[.slice none 0 0, .slice none 0 0] := by rw [hw4, hNb]; exact Bk.new w3 _ _
  have b34 : Below w3.heap.size w3 w4 := by rw [hw4]; exact Gw.alloc w3 _
  have z4 : w4.heap.size = Nb + 1 := by rw [hw4, hNb]; unfold World.alloc; simp
  have hHN : Hb < Nb := by rw [hNb, H3.out.2.2.2.2]; omega
  have hb4 : Below w.heap.size w w4 := H3.out.2.1.trans (b34.mono H3.out.2.1.size)
  have hNw : w.heap.size ≤ Nb := by rw [hNb]; exact H3.out.2.1.size
  have HF := Lib.hid (show Rb < Hb ∧ Hb < Nb ∧ w.heap.size ≤ Nb ∧ w4.heap.size = Nb + 1 from ⟨H3.out.2.2.2.1, hHN, hNw, z4⟩)
  have HS0 : Hid (∃ pv, Bk w4 Nb 54 #[pv, .slice none 0 0] ∧ Bk w4 Hb 112 #[.int .i64 (P : Int), .int .i64 (n : Int), .bool false, .int .i64 0] ∧ Bk w4 Rb 54 #[.slice none 0 0, .slice none 0 0] ∧ Ow iV 3 w4 (Nb + 1) pv (ps.take 0) ∧ Below w.heap.size w w4 ∧ Nb + 1 ≤ w4.heap.size) :=
    Lib.hid ⟨_, hbk, H3.out.2.2.1.below b34 H3.out.2.2.1.lt, H3.out.1.below b34 H3.out.1.lt, by rw [List.take_zero]; exact Ow.nil_ _ _ _ _, hb4, by rw [z4]; exact Nat.le_refl _⟩
  rw [← hw4, ← hNc]
  clear hw4 hNb hNc hbk b34 z4 hHN hb4 hNw H3
  go_loopw [26] (fun x W => ∃ k : Nat, x = .int .i64 k ∧ k ≤ P ∧ Hid (∃ pv, Bk W Nb 54 #[pv, .slice none 0 0] ∧ Bk W Hb 112 #[.int .i64 (P : Int), .int .i64 (n : Int), .bool false, .int .i64 0] ∧ Bk W Rb 54 #[.slice none 0 0, .slice none 0 0] ∧ Ow iV 3 W (Nb + 1) pv (ps.take k) ∧ Below w.heap.size w W ∧ Nb + 1 ≤ W.heap.size)) (fun x _ => P - (Go.RowKit.intOf x).toNat)
  case atStart => exact ⟨0, rfl, Nat.zero_le _, HS0⟩
  case round =>
    obtain ⟨k, rfl, hk, hS⟩ := hrel
    clear HS0
    have p0 : (0 : Int) ≤ (k : Int) := by omega
    obtain ⟨pv, e1, e2, e3, e4, e5, e6⟩ := hS.out
    by_cases hlt : k < P
    · have p1 : (k : Int) < (P : Int) := by omega
      obtain ⟨hv1, hv2⟩ := HV.out k hlt
      obtain ⟨y, hy⟩ : ∃ y, y = (ws.getD (a + 1 + k) 0#64).toNat := ⟨_, rfl⟩
      rw [← hy] at hv1 hv2
      have HPk := Lib.hid (HPt.out wr (HSp.out.below e5) k hlt)
      rw [← hy] at HPk
      have yI : (y : Int) ≤ 8192 := by omega
      obtain ⟨nv, hnv⟩ : ∃ nv, nv = numV l ((y : Int) - 1) := ⟨_, rfl⟩
      rw [← hnv] at hv1
      have HLk := Lib.hid (fun W (q : MapIs W (some mb) (numM l)) => show (Instr.lookup 97 (.map (some mb)) (.int .i64 ((y : Int) - 1)) false).run Try.prog W = .ok (.int .i64 nv) W from by
        have h1 := q.look (k := (y : Int) - 1) (by simp [Lit.wf, IntKind.min, IntKind.max, IntKind.signed, IntKind.bits]; omega)
        rw [hnv]
        exact h1)
      have htk : ps.take (k + 1) = ps.take k ++ [nv] := by
        obtain ⟨hk1, hk2⟩ := List.getElem?_eq_some_iff.1 hv1
        rw [List.take_succ_eq_append_getElem hk1, hk2]
      have hln : (ps.take k).length + [nv].length ≤ 4294967296 := by rw [List.length_take]; simp; have := HPl.out; omega
      have HX := Lib.hid (And.intro htk hln)
      have H0 := Lib.hid (And.intro e1 (And.intro e2 (And.intro e3 (And.intro e4 (And.intro e5 e6)))))
      obtain ⟨pA, pc, epv, _⟩ := e4.form
      obtain ⟨pn, hpn⟩ : ∃ pn, pn = (ps.take k).length := ⟨_, rfl⟩
      rw [← hpn] at epv
      subst epv
      clear e1 e2 e3 e4 e5 e6 hS hv1 hv2 hy hnv htk hln hpn hk
      go_wp2_with fail
      refine Calls.mono HPk.out ?_
      rintro r w6 ⟨rfl, b6⟩
      have H6 := Lib.hid (show Bk w6 Nb 54 #[.slice pA pn pc, .slice none 0 0] ∧ Bk w6 Hb 112 #[.int .i64 (P : Int), .int .i64 (n : Int), .bool false, .int .i64 0] ∧ Bk w6 Rb 54 #[.slice none 0 0, .slice none 0 0] ∧ Ow iV 3 w6 (Nb + 1) (.slice pA pn pc) (ps.take k) ∧ Below w.heap.size w w6 ∧ Nb + 1 ≤ w6.heap.size from
        ⟨H0.out.1.below b6 H0.out.1.lt, H0.out.2.1.below b6 H0.out.2.1.lt, H0.out.2.2.1.below b6 H0.out.2.2.1.lt, H0.out.2.2.2.1.below b6, H0.out.2.2.2.2.1.trans (b6.mono H0.out.2.2.2.2.1.size), Nat.le_trans H0.out.2.2.2.2.2 b6.size⟩)
      clear b6 H0 HPk
      obtain ⟨g0, g1⟩ := H6.out.1.two
      have hNl := H6.out.1.lt
      have hfz := H6.out.1.free 0
      have hmp := HM.out.kept (Kept.of_below H6.out.2.2.2.2.1 (fun _ => False)) (fun _ _ f => f)
      have hlk := HLk.out w6 hmp
      clear hmp
      go_wp2_with (at_builtin; refine wp_app oneI iV_one rfl (.tmp 41) (.tmp 45) rfl (Nb + 1) _ (ps.take k) rfl (H6.out.2.2.2.1.alloc _) (some ⟨w6.heap.size, 0, none⟩) 1 1 [nv] rfl rfl (w6.heap.size + 1) (rd1_new rfl) HX.out.2 (by decide) (Nat.le_trans H6.out.2.2.2.2.2 (Gw.alloc w6 _).size) ?_; intro v7 w7 ho7 hb7 hg7 hj7; rw [← HX.out.1] at ho7; obtain ⟨A7, c7, e7, _⟩ := ho7.form; obtain ⟨n7, hn7⟩ : ∃ n, n = (ps.take (k + 1)).length := ⟨_, rfl⟩; rw [← hn7] at e7; subst e7; clear hn7; have hk7 : Bk w7 Nb 54 #[.slice pA pn pc, .slice none 0 0] := (Kept.grown hg7).bk (H6.out.1.alloc _) (fun hh => by have := (H6.out.2.2.2.1.lt _ hh).1; omega); have H7 := Lib.hid (And.intro ho7 (And.intro hk7 (And.intro ((Kept.grown hg7).bk (H6.out.2.1.alloc _) (fun hh => by have := (H6.out.2.2.2.1.lt _ hh).1; have := HF.out; omega)) (And.intro ((Kept.grown hg7).bk (H6.out.2.2.1.alloc _) (fun hh => by have := (H6.out.2.2.2.1.lt _ hh).1; have := HF.out; omega)) (And.intro ((H6.out.2.2.2.2.1.alloc H6.out.2.2.2.2.1.size _).trans (hb7.mono (by have := HF.out; omega))) (Nat.le_trans H6.out.2.2.2.2.2 (Nat.le_trans (Gw.alloc w6 _).size hb7.size))))))); clear g0 g1 hNl hfz hlk; obtain ⟨g0, g1⟩ := hk7.two; have hNl := hk7.lt; have hfz := hk7.free 0; clear ho7 hb7 hg7 hj7 hk7)
      have HN : Hid (∃ pv, Bk (w7.setCell ⟨Nb, 0, none⟩ (.slice A7 n7 c7)) Nb 54 #[pv, .slice none 0 0] ∧ Bk (w7.setCell ⟨Nb, 0, none⟩ (.slice A7 n7 c7)) Hb 112 #[.int .i64 (P : Int), .int .i64 (n : Int), .bool false, .int .i64 0] ∧ Bk (w7.setCell ⟨Nb, 0, none⟩ (.slice A7 n7 c7)) Rb 54 #[.slice none 0 0, .slice none 0 0] ∧ Ow iV 3 (w7.setCell ⟨Nb, 0, none⟩ (.slice A7 n7 c7)) (Nb + 1) pv (ps.take (k + 1)) ∧ Below w.heap.size w (w7.setCell ⟨Nb, 0, none⟩ (.slice A7 n7 c7)) ∧ Nb + 1 ≤ (w7.setCell ⟨Nb, 0, none⟩ (.slice A7 n7 c7)).heap.size) := by
        obtain ⟨h1, h2, h3, h4, h5, h6⟩ := H7.out
        have hs : (w7.setCell ⟨Nb, 0, none⟩ (.slice A7 n7 c7)).heap.size = w7.heap.size := by simp [World.setCell]
        refine Lib.hid ⟨_, by have := h2.set 0 (.slice A7 n7 c7); simpa using this, (Kept.set w7 Nb 0 (.slice A7 n7 c7)).bk h3 (by have := HF.out; omega), (Kept.set w7 Nb 0 (.slice A7 n7 c7)).bk h4 (by have := HF.out; omega), (Kept.set w7 Nb 0 (.slice A7 n7 c7)).ow h1 (fun j hj hh => by have := (h1.lt j hj).1; omega), h5.setCell (p := ⟨Nb, 0, none⟩) (show w.heap.size ≤ Nb from HF.out.2.2.1) _, by rw [hs]; exact h6⟩
      clear g0 g1 hNl hfz H7 H6
      go_roundw
      case rel => first | exact ⟨k + 1, by go_num, by omega, HN⟩ | ((repeat apply Exists.intro); refine ⟨?_, rfl⟩; exact ⟨k + 1, by go_num, by omega, HN⟩)
      case measure => simp [Go.RowKit.intOf]; omega
    · have p1 : ¬ (k : Int) < (P : Int) := by omega
      have hkP : ps.take k = ps := List.take_of_length_le (by have := HPl.out; omega)
      rw [hkP] at e4
      have H0 := Lib.hid (And.intro e1 (And.intro e2 (And.intro e3 (And.intro e4 (And.intro e5 e6)))))
      have HR := Lib.hid (HRd.out wr (HSp.out.below e5))
      obtain ⟨pA, pc, epv, hpc⟩ := e4.form
      obtain ⟨pn, hpn⟩ : ∃ pn, pn = ps.length := ⟨_, rfl⟩
      rw [← hpn] at epv
      have HPn := Lib.hid hpn
      subst epv
      obtain ⟨g0, g1, g2, g3⟩ := e2.four
      have hHl := e2.lt
      clear e1 e2 e3 e4 e5 e6 hS hkP hpc hpn hk
      go_wp2_with fail
      refine Calls.mono HR.out ?_
      rintro r w6 ⟨dA, dc, rfl, hdc, ho6, b6⟩
      obtain ⟨dn, hdn⟩ : ∃ dn, dn = bs.length := ⟨_, rfl⟩
      rw [← hdn] at ho6 ⊢
      have H6 := Lib.hid (show Bk w6 Nb 54 #[.slice pA pn pc, .slice none 0 0] ∧ Bk w6 Rb 54 #[.slice none 0 0, .slice none 0 0] ∧ Ow iV 3 w6 (Nb + 1) (.slice pA pn pc) ps ∧ Below w.heap.size w w6 ∧ Nb + 1 ≤ w6.heap.size ∧ Ow b8 5 w6 wr.heap.size (.slice dA dn dc) bs ∧ (∀ j, (Value.slice pA pn pc).ownBlock = some j → j < wr.heap.size) ∧ Nb + 1 ≤ wr.heap.size ∧ dn = bs.length from
        ⟨H0.out.1.below b6 H0.out.1.lt, H0.out.2.2.1.below b6 H0.out.2.2.1.lt, H0.out.2.2.2.1.below b6, H0.out.2.2.2.2.1.trans (b6.mono H0.out.2.2.2.2.1.size), Nat.le_trans H0.out.2.2.2.2.2 b6.size, ho6, fun j hj => (H0.out.2.2.2.1.lt j hj).2, H0.out.2.2.2.2.2, hdn⟩)
      clear b6 ho6 hdc hdn H0 HR g0 g1 g2 g3 hHl
      obtain ⟨g0, g1⟩ := H6.out.1.two
      have hNl := H6.out.1.lt
      have hfz := H6.out.1.free 1
      obtain ⟨q0, q1⟩ := H6.out.2.1.two
      have hRl := H6.out.2.1.lt
      have hfr0 := H6.out.2.1.free 0
      have hfr1 := H6.out.2.1.free 1
      have hne : Rb ≠ Nb := by have := HF.out; omega
      go_wp2_with fail
      obtain ⟨W, hW⟩ : ∃ W, W = (((w6.setCell ⟨Nb, 1, none⟩ (.slice dA dn dc)).setCell ⟨Rb, 0, none⟩ (.slice pA pn pc)).setCell ⟨Rb, 1, none⟩ (.slice dA dn dc)) := ⟨_, rfl⟩
      have kR : Bk W Rb 54 #[.slice pA pn pc, .slice dA dn dc] := by rw [hW]; exact two_set ((Kept.set w6 Nb 1 _).bk H6.out.2.1 hne)
      have kW : Kept (fun j => j = Nb ∨ j = Rb) w6 W := by
        rw [hW]
        exact (((Kept.set w6 Nb 1 _).more fun j hj => .inl hj).trans ((Kept.set _ Rb 0 _).more fun j hj => .inr hj)).trans ((Kept.set _ Rb 1 _).more fun j hj => .inr hj)
      have hl := run_loadVar_row (P := Try.prog) W Rb 54 54 #[.slice pA pn pc, .slice dA dn dc] (0, 0) _ kR Try.underlying54 rfl (by kernel_rfl)
      rw [← hW]
      clear hW g0 g1 hNl hfz q0 q1 hRl hfr0 hfr1
      refine bodyPost_ret (res2 (p := 6) (u := 7) (by kernel_rfl) hl rfl rfl) rfl ?_
      obtain ⟨i1, i2, i3, i4⟩ := HF.out
      obtain ⟨h1, h2, h3, h4, h5, h6, h7, h8, h9⟩ := H6.out
      refine ⟨⟨pA, pc, dA, dc, ps, bs⟩, ?_, rfl, ?_, ?_, fun j hj hh => ?_, h4.trans (kW.below h4.size fun j hj => ?_)⟩
      · show _ = Ending.returned (.tuple #[.agg #[.slice pA ps.length pc, .slice dA bs.length dc], .int .i64 0])
        rw [← HPn.out, ← h9]
        rfl
      · show Ow iV 3 W w.heap.size (.slice pA ps.length pc) ps
        rw [← HPn.out]
        exact (kW.ow h3 (fun j hj hn => by have := (h3.lt j hj).1; omega)).mono (by omega)
      · show Ow b8 5 W w.heap.size (.slice dA bs.length dc) bs
        rw [← h9]
        exact (kW.ow h6 (fun j hj hn => by have := (h6.lt j hj).1; omega)).mono (by omega)
      · have e1 : (Value.slice pA pn pc).ownBlock = some j := by rw [HPn.out]; exact hj
        have e2 : (Value.slice dA dn dc).ownBlock = some j := by rw [h9]; exact hh
        have := h7 j e1
        have := (h6.lt j e2).1
        omega
      · have h10 : w.heap.size ≤ Rb := HFr.out
        omega
end Go.Proofs.Ytkkjnahjmomjgaa
/- What crc.Sum, tail and Seal answer. Conditions: at most 2^31 bytes. -/
namespace Go.Proofs.Ytkkjnahjmomjgaa
set_option linter.unusedVariables false
set_option linter.unusedSimpArgs false
open Go.RowKit
abbrev Pt : Type := Option Addr × List (BitVec 8) × Nat
def Pt.v (p : Pt) : Value := .slice p.1 p.2.1.length p.2.2
def Pt.l (p : Pt) : List (BitVec 8) := p.2.1
def sumC (ls : List (List (BitVec 8))) : BitVec 32 := ls.foldl addC 0
def tailL (s : BitVec 32) : List (BitVec 8) := [s.setWidth 8, (s >>> 8).setWidth 8, (s >>> 16).setWidth 8, (s >>> 24).setWidth 8]
def sealC (bs : List (BitVec 8)) : List (BitVec 8) := bs ++ tailL (addC 0 bs)
set_option maxHeartbeats 400000
theorem m8_0 (s : BitVec 32) : U32 s % 256 = U8 (s.setWidth 8) := by
  rw [← u32_u8]; simp [IntKind.wrap, IntKind.bits, IntKind.signed]
theorem sh8 (s : BitVec 32) : U32 s / (256 : Int) = U32 (s >>> 8) := by rw [show (256 : Int) = 2 ^ 8 from by decide, shrU32]
theorem sh16 (s : BitVec 32) : U32 s / (65536 : Int) = U32 (s >>> 16) := by rw [show (65536 : Int) = 2 ^ 16 from by decide, shrU32]
theorem sh24 (s : BitVec 32) : U32 s / (16777216 : Int) = U32 (s >>> 24) := by rw [show (16777216 : Int) = 2 ^ 24 from by decide, shrU32]
attribute [local go_sem] m8_0 sh8 sh16 sh24 u32_u8
theorem Bk.grown {w w' : World} {g : Nat} {E : TypeId} {cs : Array Value} {row : Option Nat} (h : Bk w g E cs) (hg : w.grownBy w' row) (hne : some g ≠ row) : Bk w' g E cs := (hg.block g h.lt hne).trans h
end Go.Proofs.Ytkkjnahjmomjgaa
/- What crc.Right answers. Conditions: at most 2^30 bytes. -/
namespace Go.Proofs.Ytkkjnahjmomjgaa
set_option linter.unusedVariables false
set_option linter.unusedSimpArgs false
open Go.RowKit
def right4 (xs : List (BitVec 8)) (y0 y1 y2 y3 : BitVec 8) : Bool := (addC (0#32) xs).setWidth 8 == y0 && (((addC (0#32) xs) >>> 8).setWidth 8 == y1 && (((addC (0#32) xs) >>> 16).setWidth 8 == y2 && ((addC (0#32) xs) >>> 24).setWidth 8 == y3))
attribute [local go_sem] beqU8
set_option maxHeartbeats 800000
set_option maxRecDepth 100000
end Go.Proofs.Ytkkjnahjmomjgaa
/- What Sum and Low of loamref2 answer. Conditions: at most 2^31 bytes. -/
namespace Go.Proofs.Ytkkjnahjmomjgaa
set_option linter.unusedVariables false
set_option linter.unusedSimpArgs false
open Go.RowKit
set_option maxHeartbeats 400000
set_option maxRecDepth 100000
set_option maxHeartbeats 400000
attribute [local go_sem] m8_0 sh8 sh16 sh24 u32_u8
end Go.Proofs.Ytkkjnahjmomjgaa
/- What the functions of loamref2 answer. Conditions: at most 2^30 bytes. -/
namespace Go.Proofs.Ytkkjnahjmomjgaa
set_option linter.unusedVariables false
set_option linter.unusedSimpArgs false
open Go.RowKit
end Go.Proofs.Ytkkjnahjmomjgaa
/- What loamlaw2.known answers: true. No conditions. -/
namespace Go.Proofs.Ytkkjnahjmomjgaa
set_option linter.unusedVariables false
set_option linter.unusedSimpArgs false
open Go.RowKit
def l1234 : List (BitVec 8) := [49, 50, 51, 52]
def l5 : List (BitVec 8) := [53, 54, 55, 56, 57]
def lx : List (BitVec 8) := [120]
def labc : List (BitVec 8) := [97, 98, 99]
/-- Block g has the cells cs, whatever of it is frozen. -/
def Fk (w : World) (g : Nat) (E : TypeId) (cs : Array Value) : Prop := ∃ fr, w.heap[g]? = some (.cells cs E fr)
section
variable {W W' : World} {g B : Nat} {E : TypeId} {cs : Array Value}
theorem Fk.lt (h : Fk W g E cs) : g < W.heap.size := by
  obtain ⟨fr, h⟩ := h
  rcases Nat.lt_or_ge g W.heap.size with hl | hl
  · exact hl
  · rw [Array.getElem?_eq_none hl] at h; cases h
theorem Fk.alloc (h : Fk W g E cs) (o : Obj) : Fk (W.alloc o) g E cs := ⟨h.choose, (Below.heap_alloc W o g h.lt).trans h.choose_spec⟩
theorem Fk.drew (h : Fk W g E cs) : Fk W.drew g E cs := h
theorem Fk.drewN (h : Fk W g E cs) (n : Nat) : Fk (W.drewN n) g E cs := h
theorem Fk.below (h : Fk W g E cs) (hb : Below B W W') (hg : g < B) : Fk W' g E cs := ⟨h.choose, (hb.block g hg).trans h.choose_spec⟩
theorem Fk.rd {α : Type} {f : α → Value} {xs : List α} (h : Fk W g E cs) (e : cs = (xs.map f).toArray) (hB : g < B) : Rd f W B (some ⟨g, 0, none⟩) xs := fun j hj => by
  refine ⟨_, rfl, hB, ?_⟩
  have e2 : ((⟨g, 0, none⟩ : Addr).add j) = ⟨g, j, none⟩ := by unfold Addr.add; split <;> simp_all
  rw [e2, Joins.cell_of_block h.choose_spec, e]
  simp [hj]
end
theorem kc_at (w : World) (C : Array Value) (n c g : Nat) (hg : g = w.heap.size) : (convert 52 52 (.slice (some ⟨g, 0, none⟩) n c)).run Try.prog (w.alloc (.cells C 5)) = .ok (.slice (some ⟨g, 0, none⟩) n c) (w.alloc (.cells C 5 (C.size, C.size + 1))) :=
  Joins.run_convert_bytes_const_at w 52 5 C n c g hg Try.underlying52 Try.underlying5
attribute [local go_sem] kc_at
set_option maxHeartbeats 800000
set_option maxRecDepth 100000
end Go.Proofs.Ytkkjnahjmomjgaa
/- What Low, Seal, Right of loamref2 answer. Conditions: at most 2^30 bytes. -/
namespace Go.Proofs.Ytkkjnahjmomjgaa
set_option linter.unusedVariables false
set_option linter.unusedSimpArgs false
open Go.RowKit
set_option maxRecDepth 100000
set_option maxHeartbeats 400000
attribute [local go_sem] m8_0 sh8 sh16 sh24 u32_u8
def rightL (bs : List (BitVec 8)) : Bool := decide (4 ≤ bs.length) && tailL (addC 0#32 (bs.take (bs.length - 4))) == bs.drop (bs.length - 4)
end Go.Proofs.Ytkkjnahjmomjgaa
/- How an argument of type [][]byte is opened. No conditions. -/
namespace Go.Proofs.Ytkkjnahjmomjgaa
set_option linter.unusedVariables false
set_option linter.unusedSimpArgs false
open Go.ChangeShapes Go.WideShapes Go.ChangeAt Go.RowKit
end Go.Proofs.Ytkkjnahjmomjgaa
