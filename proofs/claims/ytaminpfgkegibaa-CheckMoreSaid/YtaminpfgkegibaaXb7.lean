/- Texts joined: CkL CkM EnA EnB EnC EnD EnE EnG. -/
import Derived.Test.YtaminpfgkegibaaXb6
import Derived.Test.YtaminpfgkegibaaBitsA
import Derived.Test.YtaminpfgkegibaaMmC
import Derived.Test.YtaminpfgkegibaaGuCz
import Derived.Test.YtaminpfgkegibaaApZ
import Derived.Lib.ConvBytes
import Derived.Laws.IdiomStrings
/- check.Image at three words with no Roots. Conditions: the first two words. -/
namespace Go.Proofs.Ytaminpfgkegibaa
set_option linter.unusedVariables false
set_option linter.unusedSimpArgs false
open Go.RowKit Go.Maps
set_option maxHeartbeats 4000000
set_option maxRecDepth 100000
theorem ans_cast {P : Program} {f : FuncId} {args args' : Array Value} {w : World} {v v' : Value} (h : Ans P f args w v) (e1 : args = args') (e2 : v = v') : Ans P f args' w v' := e1 ▸ e2 ▸ h
theorem of_ansk {P : Program} {f : FuncId} {args : Array Value} {v : Value} {w : World} (h : Ans P f args w v) : Calls P f args w fun e w2 => ∃ u, e = .returned u ∧ Below w.heap.size w w2 ∧ IsV v u w2 :=
  h.mono fun _ _ h => ⟨_, h.1, h.2.below _, rfl⟩
theorem fk0 (w : World) : Ans Try.prog 45 #[.int .u64 196608, .int .i64 0, .int .i64 16] w (.int .u64 0) := ans_cast (field_c 196608 0 16 w) (by kernel_rfl) (by kernel_rfl)
theorem fk1 (w : World) : Ans Try.prog 45 #[.int .u64 196608, .int .i64 16, .int .i64 32] w (.int .u64 3) := ans_cast (field_c 196608 16 32 w) (by kernel_rfl) (by kernel_rfl)
theorem fk2 (w : World) : Ans Try.prog 45 #[.int .u64 196608, .int .i64 48, .int .i64 16] w (.int .u64 0) := ans_cast (field_c 196608 48 16 w) (by kernel_rfl) (by kernel_rfl)
theorem ckbase_c (w : World) : Calls Try.prog 23 #[.int .i64 0] w (RetP (.int .i64 2) w) := by
  go_enter Try.func23, Try.ntmps23
  go_wp2_with fail
  go_ret
  exact ⟨rfl, Below.refl _ _⟩
theorem sz3 (Q : Exit → Act → World → Prop) (a0 : Act) (w : World) (q c : Nat) (hq : q < w.heap.size) (g0 : w.cell? ⟨q, 1, none⟩ = some (.int .u64 196608)) (hsz : a0.tmps.size = 50) (sl0 : a0.tmps.getD 0 undef = .slice (some ⟨q, 0, none⟩) 3 c)
    (fin : ∀ (vals : Nat → Value) (w1 : World), Below w.heap.size w w1 → (IsV (.int .u64 0)) (vals 12) w1 → (IsV (.int .u64 3)) (vals 13) w1 → (IsV (.int .u64 0)) (vals 14) w1 → Q .normal (putD vals [15, 16, 17, 18, 19, 20, 21, 22, 23, 24, 25, 26, 4, 5, 6] 0 a0) w1) :
    (Code.region 3 (regIn Try.f20 3) true).wp Try.prog Q a0 w := by
  refine region_by (G := fun w w1 => Below w.heap.size w w1) [IsV (.slice (some ⟨q, 0, none⟩) 3 c),
    IsV (.pointer (some ⟨q, 1, none⟩)),
    IsV (.int .u64 196608),
    IsV (.int .u64 0),
    IsV (.slice (some ⟨q, 0, none⟩) 3 c),
    IsV (.pointer (some ⟨q, 1, none⟩)),
    IsV (.int .u64 196608),
    IsV (.int .u64 3),
    IsV (.slice (some ⟨q, 0, none⟩) 3 c),
    IsV (.pointer (some ⟨q, 1, none⟩)),
    IsV (.int .u64 196608),
    IsV (.int .u64 0),
    IsV (.int .u64 0),
    IsV (.int .u64 3),
    IsV (.int .u64 0)]
    [15, 16, 17, 18, 19, 20, 21, 22, 23, 24, 25, 26, 4, 5, 6] (by kernel_rfl) (Gw.drew _) Gw.trans (by rw [hsz]; kernel_rfl) (by kernel_rfl) ?_ ?_ ?_
  · intro f hf
    simp only [List.mem_cons, List.not_mem_nil, or_false] at hf
    rcases hf with rfl | rfl | rfl | rfl | rfl | rfl | rfl | rfl | rfl | rfl | rfl | rfl | rfl | rfl | rfl <;> intro v a b h g <;> first | exact IsV.mono h
  · refine ⟨?_, ?_, ?_, ?_, ?_, ?_, ?_, ?_, ?_, ?_, ?_, ?_, ?_, ?_, ?_, trivial⟩
    · exact owes_mv 0 (by kernel_rfl) (by kernel_rfl) (by kernel_rfl) sl0 (fun _ => rfl)
    · refine owes_v (Go.Op.indexAddr 22 (Go.Operand.tmp 15) (Go.Operand.const (Go.Value.int Go.IntKind.i64 1))) 0 [0] (by kernel_rfl) (by kernel_rfl) (by kernel_rfl) rfl fun vals w1 ρ hG hF hρ hcst hfun => ?_
      have e15 : ρ (.tmp 15) = .slice (some ⟨q, 0, none⟩) 3 c := ((hρ 15).trans (slotJ [0] (by rw [hsz]; decide) (by kernel_rfl))).trans (hF 0 (by decide))
      clear hρ hF hfun sl0 fin
      exact opv_val (by go_simp <;> rfl) ⟨gw_self _, rfl⟩
    · refine owes_v (Go.Op.load 57 (Go.Operand.tmp 16)) 57 [1] (by kernel_rfl) (by kernel_rfl) (by kernel_rfl) rfl fun vals w1 ρ hG hF hρ hcst hfun => ?_
      have e16 : ρ (.tmp 16) = .pointer (some ⟨q, 1, none⟩) := ((hρ 16).trans (slotJ [1] (by rw [hsz]; decide) (by kernel_rfl))).trans (hF 1 (by decide))
      have k := (hG.cell (p := ⟨q, 1, none⟩) hq).trans g0
      clear hρ hF hcst hfun sl0 fin
      exact opv_val (by go_simp <;> rfl) ⟨gw_self _, rfl⟩
    · refine owes_v (Go.Op.call { callee := Go.Callee.value (Go.Operand.func 45), args := #[Go.Operand.tmp 17, Go.Operand.const (Go.Value.int Go.IntKind.i64 0), Go.Operand.const (Go.Value.int Go.IntKind.i64 16)], argTypes := #[57, 3, 3] }) 57 [2] (by kernel_rfl) (by kernel_rfl) (by kernel_rfl) rfl fun vals w1 ρ hG hF hρ hcst hfun => ?_
      have e17 : ρ (.tmp 17) = .int .u64 196608 := ((hρ 17).trans (slotJ [2] (by rw [hsz]; decide) (by kernel_rfl))).trans (hF 2 (by decide))
      clear hρ hF sl0 fin
      exact opv_enter (by go_simp <;> rfl) (of_ansk (fk0 w1))
    · exact owes_mv 0 (by kernel_rfl) (by kernel_rfl) (by kernel_rfl) sl0 (fun _ => rfl)
    · refine owes_v (Go.Op.indexAddr 22 (Go.Operand.tmp 19) (Go.Operand.const (Go.Value.int Go.IntKind.i64 1))) 0 [4] (by kernel_rfl) (by kernel_rfl) (by kernel_rfl) rfl fun vals w1 ρ hG hF hρ hcst hfun => ?_
      have e19 : ρ (.tmp 19) = .slice (some ⟨q, 0, none⟩) 3 c := ((hρ 19).trans (slotJ [4] (by rw [hsz]; decide) (by kernel_rfl))).trans (hF 4 (by decide))
      clear hρ hF hfun sl0 fin
      exact opv_val (by go_simp <;> rfl) ⟨gw_self _, rfl⟩
    · refine owes_v (Go.Op.load 57 (Go.Operand.tmp 20)) 57 [5] (by kernel_rfl) (by kernel_rfl) (by kernel_rfl) rfl fun vals w1 ρ hG hF hρ hcst hfun => ?_
      have e20 : ρ (.tmp 20) = .pointer (some ⟨q, 1, none⟩) := ((hρ 20).trans (slotJ [5] (by rw [hsz]; decide) (by kernel_rfl))).trans (hF 5 (by decide))
      have k := (hG.cell (p := ⟨q, 1, none⟩) hq).trans g0
      clear hρ hF hcst hfun sl0 fin
      exact opv_val (by go_simp <;> rfl) ⟨gw_self _, rfl⟩
    · refine owes_v (Go.Op.call { callee := Go.Callee.value (Go.Operand.func 45), args := #[Go.Operand.tmp 21, Go.Operand.const (Go.Value.int Go.IntKind.i64 16), Go.Operand.const (Go.Value.int Go.IntKind.i64 32)], argTypes := #[57, 3, 3] }) 57 [6] (by kernel_rfl) (by kernel_rfl) (by kernel_rfl) rfl fun vals w1 ρ hG hF hρ hcst hfun => ?_
      have e21 : ρ (.tmp 21) = .int .u64 196608 := ((hρ 21).trans (slotJ [6] (by rw [hsz]; decide) (by kernel_rfl))).trans (hF 6 (by decide))
      clear hρ hF sl0 fin
      exact opv_enter (by go_simp <;> rfl) (of_ansk (fk1 w1))
    · exact owes_mv 0 (by kernel_rfl) (by kernel_rfl) (by kernel_rfl) sl0 (fun _ => rfl)
    · refine owes_v (Go.Op.indexAddr 22 (Go.Operand.tmp 23) (Go.Operand.const (Go.Value.int Go.IntKind.i64 1))) 0 [8] (by kernel_rfl) (by kernel_rfl) (by kernel_rfl) rfl fun vals w1 ρ hG hF hρ hcst hfun => ?_
      have e23 : ρ (.tmp 23) = .slice (some ⟨q, 0, none⟩) 3 c := ((hρ 23).trans (slotJ [8] (by rw [hsz]; decide) (by kernel_rfl))).trans (hF 8 (by decide))
      clear hρ hF hfun sl0 fin
      exact opv_val (by go_simp <;> rfl) ⟨gw_self _, rfl⟩
    · refine owes_v (Go.Op.load 57 (Go.Operand.tmp 24)) 57 [9] (by kernel_rfl) (by kernel_rfl) (by kernel_rfl) rfl fun vals w1 ρ hG hF hρ hcst hfun => ?_
      have e24 : ρ (.tmp 24) = .pointer (some ⟨q, 1, none⟩) := ((hρ 24).trans (slotJ [9] (by rw [hsz]; decide) (by kernel_rfl))).trans (hF 9 (by decide))
      have k := (hG.cell (p := ⟨q, 1, none⟩) hq).trans g0
      clear hρ hF hcst hfun sl0 fin
      exact opv_val (by go_simp <;> rfl) ⟨gw_self _, rfl⟩
    · refine owes_v (Go.Op.call { callee := Go.Callee.value (Go.Operand.func 45), args := #[Go.Operand.tmp 25, Go.Operand.const (Go.Value.int Go.IntKind.i64 48), Go.Operand.const (Go.Value.int Go.IntKind.i64 16)], argTypes := #[57, 3, 3] }) 57 [10] (by kernel_rfl) (by kernel_rfl) (by kernel_rfl) rfl fun vals w1 ρ hG hF hρ hcst hfun => ?_
      have e25 : ρ (.tmp 25) = .int .u64 196608 := ((hρ 25).trans (slotJ [10] (by rw [hsz]; decide) (by kernel_rfl))).trans (hF 10 (by decide))
      clear hρ hF sl0 fin
      exact opv_enter (by go_simp <;> rfl) (of_ansk (fk2 w1))
    · exact owes_mvj 3 18 (by kernel_rfl) (by kernel_rfl) (by kernel_rfl) (by kernel_rfl) (by rw [hsz]; decide) (fun v w h => h)
    · exact owes_mvj 7 22 (by kernel_rfl) (by kernel_rfl) (by kernel_rfl) (by kernel_rfl) (by rw [hsz]; decide) (fun v w h => h)
    · exact owes_mvj 11 26 (by kernel_rfl) (by kernel_rfl) (by kernel_rfl) (by kernel_rfl) (by rw [hsz]; decide) (fun v w h => h)
  · intro vals w1 hG hF
    exact fin vals w1 hG (hF 12 (by decide +kernel)) (hF 13 (by decide +kernel)) (hF 14 (by decide +kernel))
theorem sized_c (w : World) (q c : Nat) (hq : q < w.heap.size) (g0 : w.cell? ⟨q, 1, none⟩ = some (.int .u64 196608)) : Calls Try.prog 20 #[.slice (some ⟨q, 0, none⟩) 3 c] w (RetP (.tuple #[.int .i64 0, .bool true]) w) := by
  have HB := Lib.hid ckbase_c
  go_enter Try.func20, Try.ntmps20
  go_wp2_with fail
  refine sz3 _ _ _ q c hq g0 rfl ?_ ?_
  · rfl
  intro vals w1 hG h4 h5 h6
  unfold IsV at h4 h5 h6
  simp only [putD, Act.put, List.setIfInBounds_toArray, List.set_cons_zero, List.set_cons_succ, h4, h5, h6]
  have H1 := Lib.hid hG
  clear hG h4 h5 h6 g0 hq
  go_wp2_with fail
  refine Calls.mono (HB.out w1) ?_
  rintro r w2 ⟨rfl, b2⟩
  have H2 := Lib.hid b2
  clear b2
  go_wp2_with fail
  go_ret2
  exact ⟨rfl, H1.out.trans (H2.out.mono H1.out.size)⟩
theorem sized0_c (w : World) : Calls Try.prog 20 #[.slice none 0 0] w (RetP (.tuple #[.int .i64 0, .bool false]) w) := by
  go_enter Try.func20, Try.ntmps20
  go_wp2_with fail
  go_ret2
  exact ⟨rfl, Below.refl _ _⟩
theorem ckroots_c (w : World) (Xb : Nat) : Calls Try.prog 25 #[.pointer (some ⟨Xb, 0, none⟩), .int .i64 0] w (RetP (.tuple #[]) w) := by
  go_enter Try.func25, Try.ntmps25
  go_wp2_with fail
  go_loopw [13] (fun x W => x = .int .i64 0 ∧ W = w) (fun _ _ => 0)
  case atStart => exact ⟨rfl, rfl⟩
  case round =>
    obtain ⟨rfl, rfl⟩ := hrel
    go_wp2_with fail
    go_end0
    exact ⟨rfl, Below.refl _ _⟩
theorem image3_c (w : World) (q c : Nat) (x : BitVec 64) (hr : Rd u64v w w.heap.size (some ⟨q, 0, none⟩) [1296125772#64, 196608#64, x]) (F : List Nat × Option Nat) (hF : foundN [1296125772#64, 196608#64, x] 3 4 2 = F) (hq : ∀ y, F.2 = some y → okU ([1296125772#64, 196608#64, x].getD y 0#64) = false) (hl : (badF F.2 ++ allE [1296125772#64, 196608#64, x] F.1 F.1).length ≤ 5000) :
    Calls Try.prog 8 #[.slice (some ⟨q, 0, none⟩) 3 c] w (fun r w' => ∃ lv, r = .returned lv ∧ FR w' w.heap.size lv (badF F.2 ++ allE [1296125772#64, 196608#64, x] F.1 F.1) ∧ Below w.heap.size w w') := by
  obtain ⟨ws, hws⟩ : ∃ ws, ws = [1296125772#64, 196608#64, x] := ⟨_, rfl⟩
  have hn : ws.length = 3 := by rw [hws]; rfl
  obtain ⟨ad, had, hql, g0⟩ := hr 0 (Nat.zero_lt_succ _)
  injection had with had
  subst had
  obtain ⟨ad, had, _, g1⟩ := hr 1 (Nat.succ_lt_succ (Nat.zero_lt_succ _))
  injection had with had
  subst had
  rw [add_off] at g0 g1
  replace g0 : w.cell? ⟨q, 0, none⟩ = some (.int .u64 1296125772) := g0
  replace g1 : w.cell? ⟨q, 1, none⟩ = some (.int .u64 196608) := g1
  have hql : q < w.heap.size := hql
  rw [← hws] at hr hF hq hl ⊢
  have HSz := Lib.hid (fun W (h : Below w.heap.size w W) => sized_c W q c (Nat.lt_of_lt_of_le hql h.size) ((h.cell (p := ⟨q, 1, none⟩) hql).trans g1))
  have HOf := Lib.hid (fun W (h : Below w.heap.size w W) => of_in W (some ⟨q, 0, none⟩) c ws ((hr.below h).more h.size) (by omega))
  have HX := Lib.hid (And.intro hF (And.intro hq (And.intro hl hn)))
  have HB := Lib.hid ckbase_c
  have HR := Lib.hid ckroots_c
  rw [hn] at HOf
  clear hr hF hq hl hn hws g1
  go_enter Try.func8, Try.ntmps8
  go_wp2_with fail
  refine Calls.mono (HSz.out w (Below.refl _ _)) ?_
  rintro r w1 ⟨rfl, b1⟩
  have H1 := Lib.hid b1
  clear b1 g0
  go_wp2_with fail
  refine Calls.mono (HOf.out w1 H1.out) ?_
  rintro r w2 ⟨g, v, rfl, hm, b2⟩
  have H2 := Lib.hid (And.intro hm (And.intro (H1.out.trans (b2.mono H1.out.size)) b2.size))
  clear hm b2
  go_wp2_with fail
  refine Calls.mono (HB.out w2) ?_
  rintro r w3 ⟨rfl, b3⟩
  have HB3 := Lib.hid b3
  clear b3
  go_wp2_with fail
  have b3 := HB3.out
  obtain ⟨s, hs⟩ : ∃ s, s = w3.heap.size := ⟨_, rfl⟩
  obtain ⟨w4, hw4⟩ : ∃ w4, w4 = w3.alloc (.cells #[.pointer (some ⟨g, 0, none⟩), .int .i64 2, .int .i64 3, .int .i64 3] 67) := ⟨_, rfl⟩
  have hbk : Bk w4 s 67 #[.pointer (some ⟨g, 0, none⟩), .int .i64 2, .int .i64 3, .int .i64 3] := by rw [hw4, hs]; exact Bk.new w3 _ _
  have b34 : Below w3.heap.size w3 w4 := by rw [hw4]; exact Gw.alloc w3 _
  have hmm := H2.out.1.below b3
  have hsp : SpAt w4 w1.heap.size s g v ws 2 3 3 := by
    have hlt := hmm.blk.lt
    exact ⟨hmm.below b34, hbk, by omega, fun h => by have := (hmm.row.lt _ h).2; omega, by have := H2.out.2.2; have := b3.size; omega, by decide, by decide, by rw [HX.out.2.2.2]; decide⟩
  have b04 : Below w.heap.size w w4 := (H2.out.2.1.trans (b3.mono H2.out.2.1.size)).trans (b34.mono (by have := H2.out.2.1.size; have := b3.size; omega))
  have HLk := Lib.hid (look_c w4 hsp (by rw [HX.out.2.2.2]; decide) F HX.out.1 HX.out.2.1)
  have H4 := Lib.hid (And.intro hsp b04)
  rw [← hw4, ← hs]
  clear b3 H2 H1 hw4 hbk b34 hmm hsp b04 hs
  refine Calls.mono HLk.out ?_
  rintro r w5 ⟨Xb, mb, rv, lv, rfl, h5, b5⟩
  have hpg : ∀ a ∈ F.1, 2 ≤ a ∧ a < 3 ∧ goodX (ws.getD a 0#64) (3 - a) = true := fun a ha => found_good ws 3 4 2 a (by rw [HX.out.1]; exact ha)
  have hpl : F.1.length ≤ 8192 := by
    have h2 := found_len ws 3 4 2
    rw [HX.out.1] at h2
    omega
  have HO := Lib.hid (lkobj_c w5 (wB := w4) (Bs := w1.heap.size) (s := s) (g := g) (v := v) (b := 2) (t := 3) (e := 3) ⟨rfl, H4.out.1⟩ b5 h5 HX.out.2.2.1 (by rw [HX.out.2.2.2]; decide) (by rw [HX.out.2.2.2]; decide) hpg hpl)
  clear h5 b5 hpg hpl
  go_wp2_with fail
  refine Calls.mono HO.out ?_
  rintro r w6 ⟨rfl, lv2, h6, _, _, b6⟩
  have H6 := Lib.hid (And.intro h6 b6)
  clear h6 b6
  go_wp2_with fail
  refine Calls.mono (HR.out w6 Xb) ?_
  rintro r w7 ⟨rfl, b7⟩
  have h7 := H6.out.1.below b7
  have b47 := H6.out.2.trans (b7.mono H6.out.2.size)
  obtain ⟨c0, c1, c2, c3⟩ := h7.four
  have hXl := h7.blk.lt
  obtain ⟨A, cc, e0, _⟩ := h7.fr.slice_
  obtain ⟨N, hN⟩ : ∃ N, N = (badF F.2 ++ allE ws F.1 F.1).length := ⟨_, rfl⟩
  rw [← hN] at e0
  subst e0
  have H7 := Lib.hid (And.intro h7.fr (And.intro (H4.out.2.trans (b47.mono H4.out.2.size)) (And.intro hN (show 0 + (badF F.2 ++ allE ws F.1 F.1).length ≤ 100000 by have := HX.out.2.2.1; omega))))
  clear h7 b7 b47 hN
  go_wp2_with (at_builtin; refine wp_appF rfl (.tmp 59) (.tmp 63) rfl rfl (FR.nil _ w.heap.size) A N cc _ rfl H7.out.2.2.1 H7.out.1.rdf H7.out.2.2.2 H7.out.2.1.size ?_; intro v8 w8 ho8 hb8 hg8 hj8; have H8 := Lib.hid (And.intro ho8 hb8); clear ho8 hb8 hg8 hj8)
  go_ret
  exact ⟨v8, rfl, H8.out.1, H7.out.2.1.trans H8.out.2⟩
end Go.Proofs.Ytaminpfgkegibaa
/- loamlaw26's known. No conditions. -/
namespace Go.Proofs.Ytaminpfgkegibaa
set_option linter.unusedVariables false
set_option linter.unusedSimpArgs false
open Go.RowKit Go.Maps
set_option maxHeartbeats 4000000
set_option maxRecDepth 100000
def magicS : ByteArray := ⟨#[109, 97, 103, 105, 99]⟩
def sizeS : ByteArray := ⟨#[115, 105, 122, 101]⟩
/-- A call that gives findings. -/
def FiP (l : List (Nat × ByteArray)) (w : World) (r : Ending) (w' : World) : Prop := ∃ lv, r = .returned lv ∧ FR w' w.heap.size lv l ∧ Below w.heap.size w w'
theorem imgA_c (w : World) (q c : Nat) (hr : Rd u64v w w.heap.size (some ⟨q, 0, none⟩) [1296125772#64, 196608#64, 9223372036854775808#64]) : Calls Try.prog 8 #[.slice (some ⟨q, 0, none⟩) 3 c] w (FiP [] w) :=
  (image3_c w q c 9223372036854775808#64 hr ([2], none) (by decide +kernel) (fun y h => by cases h) (by decide +kernel)).mono fun r w' ⟨lv, h1, h2, h3⟩ => ⟨lv, h1, (show badF none ++ allE [1296125772#64, 196608#64, 9223372036854775808#64] [2] [2] = [] from by kernel_rfl) ▸ h2, h3⟩
theorem imgB_c (w : World) (q c : Nat) (hr : Rd u64v w w.heap.size (some ⟨q, 0, none⟩) [1296125772#64, 196608#64, 5#64]) : Calls Try.prog 8 #[.slice (some ⟨q, 0, none⟩) 3 c] w (FiP [(2, headS)] w) :=
  (image3_c w q c 5#64 hr ([], some 2) (by decide +kernel) (fun y h => by injection h with h; subst h; decide +kernel) (by decide +kernel)).mono fun r w' ⟨lv, h1, h2, h3⟩ => ⟨lv, h1, (show badF (some 2) ++ allE [1296125772#64, 196608#64, 5#64] [] [] = [(2, headS)] from rfl) ▸ h2, h3⟩
theorem fr_some {w : World} {B : Nat} {v : Value} {p : Nat × ByteArray} {l : List (Nat × ByteArray)} {n : Nat} (h : FR w B v (p :: l)) (hn : n = l.length + 1) : ∃ q c, v = .slice (some ⟨q, 0, none⟩) n c := by
  rcases h.form with ⟨_, h⟩ | ⟨q, c, e, _⟩
  · cases h
  · exact ⟨q, c, by rw [e, hn]; rfl⟩
theorem imgN_c (w : World) : Calls Try.prog 8 #[.slice none 0 0] w (FiP [(0, magicS), (1, sizeS)] w) := by
  have HSz := Lib.hid sized0_c
  go_enter Try.func8, Try.ntmps8
  have HF := Lib.hid (fun v W (h : FR W w.heap.size v ([] ++ [(0, magicS)])) => fr_some (n := 1) h rfl)
  go_wp2_with (at_builtin; refine wp_appF rfl (.tmp 18) (.tmp 20) rfl rfl (FR.nil _ w.heap.size) (some ⟨w.heap.size, 0, none⟩) 1 1 [(0, magicS)] rfl rfl (rdF_new w 0 magicS) (by decide) (Gw.alloc w _).size ?_; intro v1 w1 ho1 hb1 hg1 hj1; have H1 := Lib.hid (And.intro ho1 ((Gw.alloc w _).trans hb1)); clear hb1 hg1 hj1; obtain ⟨q1, c1, e1⟩ := HF.out _ _ ho1; subst e1; clear ho1)
  refine Calls.mono (HSz.out w1) ?_
  rintro r w2 ⟨rfl, b2⟩
  have H2 := Lib.hid (And.intro (H1.out.1.below b2) (H1.out.2.trans (b2.mono H1.out.2.size)))
  clear b2
  go_wp2_with (at_builtin; refine wp_appF rfl (.tmp 29) (.tmp 31) rfl rfl (H2.out.1.below (Gw.alloc w2 _)) (some ⟨w2.heap.size, 0, none⟩) 1 1 [(1, sizeS)] rfl rfl (rdF_new w2 1 sizeS) (by decide) (Nat.le_trans H2.out.2.size (Gw.alloc w2 _).size) ?_; intro v3 w3 ho3 hb3 hg3 hj3; have H3 := Lib.hid (And.intro ho3 ((H2.out.2.trans ((Gw.alloc w2 _).mono H2.out.2.size)).trans hb3)); clear ho3 hb3 hg3 hj3)
  go_ret
  exact ⟨v3, rfl, H3.out.1, H3.out.2⟩
theorem right3_c (w : World) (q c : Nat) (hr : Rd u64v w w.heap.size (some ⟨q, 0, none⟩) [1296125772#64, 196608#64, 9223372036854775808#64]) : Calls Try.prog 12 #[.slice (some ⟨q, 0, none⟩) 3 c] w (RetP (.bool true) w) := by
  have HI := Lib.hid (imgA_c w q c hr)
  clear hr
  go_enter Try.func12, Try.ntmps12
  go_wp2_with fail
  refine Calls.mono HI.out ?_
  rintro r w1 ⟨lv, rfl, h1, b1⟩
  obtain ⟨A, cc, e0, _⟩ := h1.slice_
  replace e0 : lv = .slice A 0 cc := e0
  subst e0
  have H1 := Lib.hid b1
  clear h1 b1
  go_wp2_with fail
  go_ret
  exact ⟨rfl, H1.out⟩
theorem rightN_c (w : World) : Calls Try.prog 12 #[.slice none 0 0] w (RetP (.bool false) w) := by
  have HI := Lib.hid (imgN_c w)
  go_enter Try.func12, Try.ntmps12
  go_wp2_with fail
  refine Calls.mono HI.out ?_
  rintro r w1 ⟨lv, rfl, h1, b1⟩
  obtain ⟨q, cc, e0⟩ := fr_some (n := 2) h1 rfl
  subst e0
  have H1 := Lib.hid b1
  clear h1 b1
  go_wp2_with fail
  go_ret
  exact ⟨rfl, H1.out⟩
theorem rd3 (w : World) (c : Nat) (a b d : BitVec 64) (E : TypeId) : Rd u64v (w.alloc (.cells #[u64v a, u64v b, u64v d] E)) (w.heap.size + 1) (some ⟨w.heap.size, 0, none⟩) [a, b, d] := by
  have hb := Bk.new w E #[u64v a, u64v b, u64v d]
  intro j hj
  refine ⟨_, rfl, Nat.lt_succ_self _, ?_⟩
  rw [add_off]
  match j, hj with
  | 0, _ => exact hb.cell 0
  | 1, _ => exact hb.cell 1
  | 2, _ => exact hb.cell 2
theorem known26_c (w : World) : Calls Try.prog 7 #[] w (RetP (.bool true) w) := by
  have HN := Lib.hid imgN_c
  have HRn := Lib.hid rightN_c
  go_enter Try.func7, Try.ntmps7
  go_wp2_with fail
  obtain ⟨w1, hw1⟩ : ∃ W, W = w.alloc (.cells #[.int .u64 1296125772, .int .u64 196608, .int .u64 9223372036854775808] 57) := ⟨_, rfl⟩
  obtain ⟨q, hq⟩ : ∃ q, q = w.heap.size := ⟨_, rfl⟩
  have e1 : w1.heap.size = q + 1 := by rw [hw1, hq]; unfold World.alloc; simp
  have hA : Rd u64v w1 w1.heap.size (some ⟨q, 0, none⟩) [1296125772#64, 196608#64, 9223372036854775808#64] := by
    rw [e1, hq, hw1]
    exact rd3 w 0 1296125772#64 196608#64 9223372036854775808#64 57
  have b01 : Below w.heap.size w w1 := by rw [hw1]; exact Gw.alloc w _
  rw [← hw1, ← hq, ← e1]
  obtain ⟨w2, hw2⟩ : ∃ W, W = w1.alloc (.cells #[.int .u64 1296125772, .int .u64 196608, .int .u64 5] 57) := ⟨_, rfl⟩
  obtain ⟨q2, hq2⟩ : ∃ q, q = w1.heap.size := ⟨_, rfl⟩
  have e2 : w2.heap.size = q2 + 1 := by rw [hw2, hq2]; unfold World.alloc; simp
  have hB : Rd u64v w2 w2.heap.size (some ⟨q2, 0, none⟩) [1296125772#64, 196608#64, 5#64] := by
    rw [e2, hq2, hw2]
    exact rd3 w1 0 1296125772#64 196608#64 5#64 57
  have b12 : Below w1.heap.size w1 w2 := by rw [hw2]; exact Gw.alloc w1 _
  rw [← hw2, ← hq2]
  have H2 := Lib.hid (And.intro ((hA.below b12).more b12.size) (b01.trans (b12.mono b01.size)))
  have HIB := Lib.hid (imgB_c w2 q2 3 hB)
  clear hw1 hw2 hq hq2 e1 e2 hA hB b01 b12
  refine Calls.mono HIB.out ?_
  rintro r w3 ⟨lf, rfl, h3, b3⟩
  obtain ⟨qf, cf, e0⟩ := fr_some (n := 1) h3 rfl
  subst e0
  obtain ⟨qq, hqq, _, hql, f0, f1⟩ := h3.at_ 0 (by decide)
  injection hqq with hqq
  injection hqq with hqq
  subst hqq
  have f0 : w3.cell? ⟨qf, 0, none⟩ = some (.int .i64 2) := f0
  have f1 : w3.cell? ⟨qf, 1, none⟩ = some (.string headS) := f1
  have H3 := Lib.hid (And.intro hql (And.intro f0 (And.intro f1 (And.intro ((H2.out.1.below b3).more b3.size) (H2.out.2.trans (b3.mono H2.out.2.size))))))
  clear h3 b3 hql f0 f1 HIB H2
  go_wp2_with fail
  refine Calls.mono (HN.out w3) ?_
  rintro r w4 ⟨lg, rfl, h4, b4⟩
  obtain ⟨qg, cg, e0⟩ := fr_some (n := 2) h4 rfl
  subst e0
  obtain ⟨qq, hqq, _, hql, _, g1⟩ := h4.at_ 0 (by decide)
  injection hqq with hqq
  injection hqq with hqq
  subst hqq
  obtain ⟨qq, hqq, _, _, _, g2⟩ := h4.at_ 1 (by decide)
  injection hqq with hqq
  injection hqq with hqq
  subst hqq
  have g1 : w4.cell? ⟨qg, 1, none⟩ = some (.string magicS) := g1
  have g2 : w4.cell? ⟨qg, 3, none⟩ = some (.string sizeS) := g2
  have H4 := Lib.hid (And.intro hql (And.intro g1 (And.intro g2 (And.intro ((H3.out.2.2.2.1.below b4).more b4.size) (And.intro (H3.out.2.2.2.2.trans (b4.mono H3.out.2.2.2.2.size)) b4)))))
  clear h4 b4 hql g1 g2 HN
  go_wp2_with fail
  refine Calls.mono (right3_c w4 _ _ H4.out.2.2.2.1) ?_
  rintro r w5 ⟨rfl, b5⟩
  have H5 := Lib.hid (And.intro ((H4.out.2.2.2.1.below b5).more b5.size) b5)
  clear b5
  go_wp2_with fail
  refine Calls.mono (imgA_c w5 _ _ H5.out.1) ?_
  rintro r w6 ⟨ll, rfl, h6, b6⟩
  obtain ⟨A, cc, e0, _⟩ := h6.slice_
  replace e0 : ll = .slice A 0 cc := e0
  subst e0
  have b46 : Below w4.heap.size w4 w6 := H5.out.2.trans (b6.mono H5.out.2.size)
  have b36 : Below w3.heap.size w3 w6 := H4.out.2.2.2.2.2.trans (b46.mono H4.out.2.2.2.2.2.size)
  have b06 : Below w.heap.size w w6 := H4.out.2.2.2.2.1.trans (b46.mono H4.out.2.2.2.2.1.size)
  have f0 : w6.cell? ⟨qf, 0, none⟩ = some (.int .i64 2) := (b36.cell (p := ⟨qf, 0, none⟩) H3.out.1).trans H3.out.2.1
  have f1 : w6.cell? ⟨qf, 1, none⟩ = some (.string ⟨#[104, 101, 97, 100]⟩) := (b36.cell (p := ⟨qf, 1, none⟩) H3.out.1).trans H3.out.2.2.1
  have g1 : w6.cell? ⟨qg, 1, none⟩ = some (.string ⟨#[109, 97, 103, 105, 99]⟩) := (b46.cell (p := ⟨qg, 1, none⟩) H4.out.1).trans H4.out.2.1
  have g2 : w6.cell? ⟨qg, 3, none⟩ = some (.string ⟨#[115, 105, 122, 101]⟩) := (b46.cell (p := ⟨qg, 3, none⟩) H4.out.1).trans H4.out.2.2.1
  have H6 := Lib.hid b06
  clear b46 b36 b06 b6 h6
  go_wp2_with fail
  refine Calls.mono (HRn.out w6) ?_
  rintro r w7 ⟨rfl, b7⟩
  have H7 := Lib.hid b7
  clear b7
  go_wp2_with fail
  go_ret
  exact ⟨rfl, H6.out.trans (H7.out.mono H6.out.size)⟩
end Go.Proofs.Ytaminpfgkegibaa
/- Rows of bytes in words; a place's word: the reference's. Conditions: lengths. -/
namespace Go.Proofs.Ytaminpfgkegibaa
set_option linter.unusedVariables false
set_option linter.unusedSimpArgs false
open Go.RowKit Go.Maps
set_option maxHeartbeats 4000000
set_option maxRecDepth 100000
/-- The first k words of bytes. -/
def wordsN (bs : List (BitVec 8)) (k : Nat) : List (BitVec 64) := (List.range k).map fun i => leN ((bs.drop (8 * i)).take 8)
def wordsW (bs : List (BitVec 8)) : List (BitVec 64) := wordsN bs ((bs.length + 7) / 8)
theorem wordsN_len (bs : List (BitVec 8)) (k : Nat) : (wordsN bs k).length = k := by unfold wordsN; simp
theorem wordsN_snoc (bs : List (BitVec 8)) (k : Nat) : wordsN bs (k + 1) = wordsN bs k ++ [leN ((bs.drop (8 * k)).take 8)] := by unfold wordsN; rw [List.range_succ, List.map_append]; rfl
theorem leN_more (l : List (BitVec 8)) (j : Nat) (h : j < l.length) : leN (l.take (j + 1)) = leN (l.take j) ||| (l[j]).setWidth 64 <<< (8 * j) := by
  rw [take_snoc' _ _ h, leN_snoc, List.length_take, Nat.min_eq_left (by omega)]
theorem rwd_c (w : World) (A : Option Addr) (c : Nat) (bs : List (BitVec 8)) (hr : Rd b8 w w.heap.size A bs) (hl : bs.length ≤ 1000000) :
    Calls Try.prog 42 #[.slice A bs.length c] w (MkP u64v 57 (wordsW bs) w) := by
  obtain ⟨N, hN⟩ : ∃ N, N = bs.length := ⟨_, rfl⟩
  have HN := Lib.hid (And.intro hN hr)
  rw [← hN] at hl ⊢
  have NI : (N : Int) ≤ 1000000 := by omega
  clear hr hN
  go_enter Try.func42, Try.ntmps42
  go_wp2_with fail
  go_loopw [3, 4] (fun o i W => ∃ k p : Nat, i = .int .i64 p ∧ p = 8 * k ∧ p < N + 8 ∧ Hid (Ow u64v 57 W w.heap.size o (wordsN bs k) ∧ Below w.heap.size w W)) (fun _ i _ => N + 8 - (Go.RowKit.intOf i).toNat)
  case atStart => exact ⟨0, 0, rfl, rfl, by omega, Lib.hid ⟨Ow.nil_ _ _ _ _, Below.refl _ _⟩⟩
  case round =>
    obtain ⟨k, p, rfl, hp, hpN, HO⟩ := hrel
    have HP := Lib.hid (And.intro hp (And.intro hpN hl))
    have p0 : (0 : Int) ≤ (p : Int) := by omega
    by_cases hlt : p < N
    · have p1 : (p : Int) < (N : Int) := by omega
      clear hp
      go_wp2_with fail
      go_loopw [5, 6] (fun v x W => ∃ (j : Nat) (y : BitVec 64), x = .int .i64 j ∧ v = .int .u64 (U64 y) ∧ j ≤ 8 ∧ p + j ≤ N ∧ Hid (y = leN ((bs.drop p).take j)) ∧ W = wr) (fun _ x _ => 8 - (Go.RowKit.intOf x).toNat)
      case atStart => exact ⟨0, 0#64, rfl, rfl, by omega, by omega, Lib.hid rfl, rfl⟩
      case round =>
        obtain ⟨j, y, rfl, rfl, hj8, hjN, HY, rfl⟩ := hrel
        have j0 : (0 : Int) ≤ (j : Int) := by omega
        by_cases h8 : j < 8
        · have t1 : (j : Int) < 8 := by omega
          by_cases hn : p + j < N
          · have t2 : (p : Int) + (j : Int) < (N : Int) := by omega
            obtain ⟨ad, hA, _, hc⟩ := (HN.out.2.below HO.out.2).at_ (j := p + j) (by rw [← HN.out.1]; exact hn)
            obtain ⟨x, hx⟩ : ∃ x, x = bs[p + j]'(by rw [← HN.out.1]; exact hn) := ⟨_, rfl⟩
            rw [← hx] at hc
            unfold b8 at hc
            have HX := Lib.hid hx
            obtain ⟨q, hq⟩ : ∃ q, q = p + j := ⟨_, rfl⟩
            have q1 : (p : Int) + (j : Int) = (q : Int) := by omega
            have q2 : (q : Int) < (N : Int) := by omega
            have q3 : (0 : Int) ≤ (q : Int) := by omega
            rw [← hq] at hc
            clear hx hq
            subst hA
            go_wp2_with fail
            go_roundw
            case rel =>
              refine ⟨j + 1, y ||| x.setWidth 64 <<< (8 * j), by go_num, val_u64 ?_, by omega, by omega, Lib.hid ?_, by first | rfl | trivial⟩
              · rw [u8_u64, wrapU64, shlU64, orU64]
              · have hd : j < (bs.drop p).length := by rw [List.length_drop, ← HN.out.1]; omega
                rw [leN_more _ _ hd, ← HY.out, HX.out, List.getElem_drop]
            case measure => simp [Go.RowKit.intOf]; omega
          · have hN2 : p + j = N := by omega
            have t2 : (p : Int) + (j : Int) = (N : Int) := by omega
            have HJ := Lib.hid hN2
            clear hN2 hn
            have HY2 := Lib.hid (show y = leN ((bs.drop p).take 8) from by rw [HY.out, List.take_of_length_le (by rw [List.length_drop, ← HN.out.1]; have := HJ.out; omega), List.take_of_length_le (by rw [List.length_drop, ← HN.out.1]; have := HJ.out; omega)])
            obtain ⟨A3, c3, e0, hAc⟩ := HO.out.1.form
            obtain ⟨M, hM⟩ : ∃ M, M = (wordsN bs k).length := ⟨_, rfl⟩
            rw [← hM] at e0
            have HM := Lib.hid (And.intro hM hAc)
            subst e0
            have hR : Rd u64v (wr.alloc (.cells #[.int .u64 (U64 y)] 57)) (wr.heap.size + 1) (some ⟨wr.heap.size, 0, none⟩) [y] := rd1_new rfl
            have HC := Lib.hid (show (wordsN bs k).length + [y].length ≤ 4294967296 ∧ w.heap.size ≤ (wr.alloc (.cells #[.int .u64 (U64 y)] 57)).heap.size from ⟨by have h := HP.out; rw [wordsN_len]; simp; omega, by have := HO.out.2.size; simp; omega⟩)
            have HR3 := Lib.hid hR
            clear hR hM hAc
            go_wp2_with (at_builtin; refine wp_app one64 u64v_one rfl (.tmp 38) (.tmp 40) rfl w.heap.size _ (wordsN bs k) rfl (HO.out.1.alloc _) _ 1 1 [y] rfl rfl (wr.heap.size + 1) HR3.out HC.out.1 (by decide) HC.out.2 ?_; intro v1 w1 hown1 hb1 _ _; have H1 := Lib.hid (And.intro hown1 hb1); clear hown1 hb1)
            go_roundw
            case rel => exact ⟨k + 1, p + 8, by go_num, by have := HP.out; omega, by omega, Lib.hid ⟨by rw [wordsN_snoc]; have h := H1.out.1; rw [HY2.out, HP.out.1] at h; exact h, (HO.out.2.alloc (by have := HO.out.2.size; omega) _).trans H1.out.2⟩⟩
            case measure => simp [Go.RowKit.intOf]; omega
        · obtain rfl : j = 8 := by omega
          have HY2 := Lib.hid (show y = leN ((bs.drop p).take 8) from HY.out)
          obtain ⟨A3, c3, e0, hAc⟩ := HO.out.1.form
          obtain ⟨M, hM⟩ : ∃ M, M = (wordsN bs k).length := ⟨_, rfl⟩
          rw [← hM] at e0
          have HM := Lib.hid (And.intro hM hAc)
          subst e0
          have hR : Rd u64v (wr.alloc (.cells #[.int .u64 (U64 y)] 57)) (wr.heap.size + 1) (some ⟨wr.heap.size, 0, none⟩) [y] := rd1_new rfl
          have HC := Lib.hid (show (wordsN bs k).length + [y].length ≤ 4294967296 ∧ w.heap.size ≤ (wr.alloc (.cells #[.int .u64 (U64 y)] 57)).heap.size from ⟨by have h := HP.out; rw [wordsN_len]; simp; omega, by have := HO.out.2.size; simp; omega⟩)
          have HR3 := Lib.hid hR
          clear hR hM hAc
          go_wp2_with (at_builtin; refine wp_app one64 u64v_one rfl (.tmp 38) (.tmp 40) rfl w.heap.size _ (wordsN bs k) rfl (HO.out.1.alloc _) _ 1 1 [y] rfl rfl (wr.heap.size + 1) HR3.out HC.out.1 (by decide) HC.out.2 ?_; intro v1 w1 hown1 hb1 _ _; have H1 := Lib.hid (And.intro hown1 hb1); clear hown1 hb1)
          go_roundw
          case rel => exact ⟨k + 1, p + 8, by go_num, by have := HP.out; omega, by omega, Lib.hid ⟨by rw [wordsN_snoc]; have h := H1.out.1; rw [HY2.out, HP.out.1] at h; exact h, (HO.out.2.alloc (by have := HO.out.2.size; omega) _).trans H1.out.2⟩⟩
          case measure => simp [Go.RowKit.intOf]; omega
    · have p1 : ¬ (p : Int) < (N : Int) := by omega
      have HK := Lib.hid (show k = (bs.length + 7) / 8 by rw [← HN.out.1]; omega)
      clear hp
      go_wp2_with fail
      go_ret
      have h := HO.out.1
      rw [HK.out] at h
      exact MkP.of h HO.out.2
/-- The word that leads to a node: 0, or its place and 1. -/
def pointW (pl : List Nat) (p : Int) : BitVec 64 := if p = 0 then 0#64 else BitVec.ofNat 64 (pl.getD (p.toNat - 1) 0 + 1)
theorem point_c (w : World) (A : Option Addr) (c : Nat) (pl : List Nat) (hr : Rd iN w w.heap.size A pl) (p : Int) (h0 : 0 ≤ p) (h1 : p ≤ (pl.length : Int)) (hl : pl.length ≤ 1000000) (hb : ∀ x ∈ pl, x ≤ 1000000) :
    Calls Try.prog 43 #[.slice A pl.length c, .int .i64 p] w (RetP (.int .u64 (U64 (pointW pl p))) w) := by
  obtain ⟨N, hN⟩ : ∃ N, N = pl.length := ⟨_, rfl⟩
  obtain ⟨k, rfl⟩ := Int.eq_ofNat_of_zero_le h0
  by_cases hk : k = 0
  · subst hk
    have e : U64 (pointW pl ((0 : Nat) : Int)) = 0 := rfl
    rw [e]
    clear hr h0 h1 hb hl
    rw [← hN]
    go_enter Try.func43, Try.ntmps43
    go_wp2_with fail
    go_ret
    exact ⟨rfl, Below.refl _ _⟩
  · obtain ⟨j, rfl⟩ : ∃ j, k = j + 1 := ⟨k - 1, by omega⟩
    have hj : j < pl.length := by omega
    obtain ⟨ad, rfl, _, hc⟩ := hr.at_ hj
    obtain ⟨x, hx⟩ : ∃ x, x = pl[j] := ⟨_, rfl⟩
    have hx9 : x ≤ 1000000 := by rw [hx]; exact hb _ (List.getElem_mem _)
    have e : U64 (pointW pl ((j + 1 : Nat) : Int)) = (x : Int) + 1 := by
      unfold pointW
      rw [if_neg (by omega), show ((j + 1 : Nat) : Int).toNat - 1 = j from by omega, List.getD_eq_getElem?_getD, List.getElem?_eq_getElem hj, Option.getD_some, ← hx]
      unfold U64
      rw [BitVec.toNat_ofNat, Nat.mod_eq_of_lt (by omega)]
      omega
    rw [e]
    rw [← hx] at hc
    unfold iN at hc
    have z1 : ¬ ((j + 1 : Nat) : Int) = 0 := by omega
    have z2 : ((j + 1 : Nat) : Int) - 1 = (j : Int) := by omega
    have z3 : (j : Int) < (N : Int) := by omega
    have z4 : (0 : Int) ≤ (j : Int) := by omega
    have z5 : (N : Int) ≤ 1000000 := by omega
    have z6 : (x : Int) ≤ 1000000 := by omega
    have z7 : (0 : Int) ≤ (x : Int) := by omega
    obtain ⟨q, hq⟩ : ∃ q : Int, q = ((j + 1 : Nat) : Int) := ⟨_, rfl⟩
    rw [← hq] at z1 z2 ⊢
    have z8 : (0 : Int) ≤ q := by omega
    have z9 : q ≤ 1000000 := by omega
    rw [← hN]
    clear hr h0 h1 hb hl hx hx9 e hj hN hq
    go_enter Try.func43, Try.ntmps43
    go_wp2_with fail
    go_ret
    exact ⟨by first | rfl | (congr 2; omega) | (simp; omega), Below.refl _ _⟩
end Go.Proofs.Ytaminpfgkegibaa
/- A graph in words: the reference's, as a list (pure). Conditions: a graph that Check lets. -/
namespace Go.Proofs.Ytaminpfgkegibaa
set_option linter.unusedVariables false
set_option linter.unusedSimpArgs false
open Go.RowKit
set_option maxHeartbeats 1000000
def szG (x : Nv) : Nat := 1 + x.ps.length + (x.bs.length + 7) / 8
/-- The places of nodes, one behind the other; where they end. -/
def placeL : List Nv → Nat → List Nat
  | [], _ => []
  | x :: r, a => a :: placeL r (a + szG x)
def endL : List Nv → Nat → Nat
  | [], a => a
  | x :: r, a => endL r (a + szG x)
theorem placeL_len : ∀ (l : List Nv) (a : Nat), (placeL l a).length = l.length
  | [], _ => rfl
  | x :: r, a => by unfold placeL; rw [List.length_cons, List.length_cons, placeL_len r]
theorem endL_snoc (x : Nv) : ∀ (l : List Nv) (a : Nat), endL (l ++ [x]) a = endL l a + szG x
  | [], _ => rfl
  | y :: r, a => by rw [List.cons_append]; unfold endL; exact endL_snoc x r _
theorem placeL_snoc (x : Nv) : ∀ (l : List Nv) (a : Nat), placeL (l ++ [x]) a = placeL l a ++ [endL l a]
  | [], _ => rfl
  | y :: r, a => by rw [List.cons_append]; unfold placeL endL; rw [placeL_snoc x r]; rfl
theorem endL_ge : ∀ (l : List Nv) (a : Nat), a ≤ endL l a
  | [], _ => Nat.le_refl _
  | x :: r, a => Nat.le_trans (Nat.le_add_right _ _) (endL_ge r _)
theorem endL_add : ∀ (l : List Nv) (a : Nat), endL l a = a + endL l 0
  | [], _ => rfl
  | x :: r, a => by unfold endL; rw [endL_add r (a + szG x), endL_add r (0 + szG x)]; omega
theorem endL_take_le : ∀ (l : List Nv) (k a : Nat), endL (l.take k) a ≤ endL l a
  | [], k, a => by simp
  | x :: r, 0, a => endL_ge _ _
  | x :: r, k + 1, a => by rw [List.take_succ_cons]; unfold endL; exact endL_take_le r k _
theorem placeL_lt : ∀ (l : List Nv) (a : Nat), ∀ y ∈ placeL l a, a ≤ y ∧ y < endL l a
  | [], _, y, h => by cases h
  | x :: r, a, y, h => by
    unfold placeL at h
    unfold endL
    have h1 := endL_ge r (a + szG x)
    have h2 : 1 ≤ szG x := by unfold szG; omega
    rcases List.mem_cons.1 h with rfl | h
    · omega
    · have := placeL_lt r _ y h; omega
theorem ckNode_ok {N : Nat} {x : Nv} (h : ckNode N x = 0) : (∀ p ∈ x.ps, okP N p = true) ∧ x.ps.length ≤ 64 ∧ x.bs.length ≤ 1024 := by
  unfold ckNode at h
  by_cases h1 : x.ps.all (okP N) = true
  · rw [if_pos h1] at h
    by_cases h2 : 64 < x.ps.length ∨ 1024 < x.bs.length
    · rw [if_pos h2] at h; cases h
    · exact ⟨fun p hp => List.all_eq_true.1 h1 p hp, by omega, by omega⟩
  · rw [if_neg h1] at h; cases h
theorem ckNodes_all {N : Nat} : ∀ {l : List Nv}, ckNodes N l = 0 → ∀ x ∈ l, ckNode N x = 0
  | [], _, x, hx => by cases hx
  | y :: l, h, x, hx => by
    unfold ckNodes at h
    by_cases h1 : ckNode N y = 0
    · rw [if_pos h1] at h
      rcases List.mem_cons.1 hx with rfl | hx
      · exact h1
      · exact ckNodes_all h x hx
    · rw [if_neg h1] at h; exact absurd h h1
theorem ckRoots_all {N : Nat} : ∀ {l : List Rv} {s : ByteArray}, ckRoots N s l = 0 → ∀ r ∈ l, goodS r.s = true ∧ okP N r.t = true
  | [], _, _, r, hr => by cases hr
  | y :: l, s, h, r, hr => by
    unfold ckRoots at h
    by_cases h1 : goodS y.s = true ∧ leS y.s s = false
    · rw [if_pos h1] at h
      by_cases h2 : okP N y.t = true
      · rw [if_pos h2] at h
        rcases List.mem_cons.1 hr with rfl | hr
        · exact ⟨h1.1, h2⟩
        · exact ckRoots_all h r hr
      · rw [if_neg h2] at h; cases h
    · rw [if_neg h1] at h; cases h
theorem ckG_ok {g : Gv} (h : ckG g = 0) : (∀ x ∈ g.n, (∀ p ∈ x.ps, okP g.n.length p = true) ∧ x.ps.length ≤ 64 ∧ x.bs.length ≤ 1024) ∧ g.r.length ≤ 64 ∧ ∀ r ∈ g.r, goodS r.s = true ∧ okP g.n.length r.t = true := by
  unfold ckG at h
  by_cases h1 : ckNodes g.n.length g.n = 0
  · rw [if_pos h1] at h
    by_cases h2 : 64 < g.r.length
    · rw [if_pos h2] at h; cases h
    · rw [if_neg h2] at h
      exact ⟨fun x hx => ckNode_ok (ckNodes_all h1 x hx), by omega, ckRoots_all h⟩
  · rw [if_neg h1] at h; exact absurd h h1
theorem goodS_size {s : ByteArray} (h : goodS s = true) : 1 ≤ s.size ∧ s.size ≤ 32 := by
  unfold goodS at h
  simp only [Bool.and_eq_true, decide_eq_true_eq] at h
  exact ⟨h.1, h.2.1⟩
theorem szN_szG {x : Nv} (h1 : x.ps.length ≤ 64) (h2 : x.bs.length ≤ 1024) : szN x = (szG x : Int) := by
  have h : rightH (x.ps.length : Int) (x.bs.length : Int) false 0 = true := by unfold rightH; simp; omega
  unfold szN sizeH szG
  rw [if_pos ⟨h, rfl⟩]
  omega
theorem wordsL_end : ∀ (l : List Nv), (∀ x ∈ l, x.ps.length ≤ 64 ∧ x.bs.length ≤ 1024) → wordsL l = (endL l 0 : Int)
  | [], _ => rfl
  | x :: r, h => by
    have h1 := h x (List.mem_cons_self ..)
    have ih := wordsL_end r (fun y hy => h y (List.mem_cons_of_mem _ hy))
    show szN x + wordsL r = _
    rw [szN_szG h1.1 h1.2, ih]
    show _ = ((endL r (0 + szG x) : Nat) : Int)
    rw [endL_add r (0 + szG x)]
    omega
/-- A name's bytes, filled up. -/
def nameW (s : ByteArray) : List (BitVec 8) := s.data.toList.map (·.toBitVec) ++ List.replicate (32 - s.size) 0#8
theorem nameW_len {s : ByteArray} (h : s.size ≤ 32) : (nameW s).length = 32 := by
  have e : s.data.toList.length = s.size := rfl
  unfold nameW
  rw [List.length_append, List.length_map, List.length_replicate, e]
  omega
theorem wordsW_len (bs : List (BitVec 8)) : (wordsW bs).length = (bs.length + 7) / 8 := wordsN_len bs _
def rootW (pl : List Nat) (r : Rv) : List (BitVec 64) := wordsW (nameW r.s) ++ [pointW pl r.t]
theorem rootW_len (pl : List Nat) {r : Rv} (h : r.s.size ≤ 32) : (rootW pl r).length = 5 := by
  unfold rootW
  rw [List.length_append, wordsW_len, nameW_len h]
  rfl
def headW (x : Nv) : BitVec 64 := packH x.ps.length x.bs.length false 0
def nodeW (pl : List Nat) (x : Nv) : List (BitVec 64) := headW x :: (x.ps.map (pointW pl) ++ wordsW x.bs)
theorem nodeW_len (pl : List Nat) (x : Nv) : (nodeW pl x).length = szG x := by
  unfold nodeW szG
  rw [List.length_cons, List.length_append, List.length_map, wordsW_len]
  omega
def frontW (R t : Nat) : List (BitVec 64) := [1296125772#64, BitVec.ofNat 64 (R + t * 65536)]
def encW (ns : List Nv) (rs : List Rv) : List (BitVec 64) :=
  frontW rs.length (endL ns (2 + 5 * rs.length)) ++ rs.flatMap (rootW (placeL ns (2 + 5 * rs.length))) ++ ns.flatMap (nodeW (placeL ns (2 + 5 * rs.length)))
theorem roots_len (pl : List Nat) : ∀ (rs : List Rv), (∀ r ∈ rs, r.s.size ≤ 32) → (rs.flatMap (rootW pl)).length = 5 * rs.length
  | [], _ => rfl
  | r :: rs, h => by
    rw [List.flatMap_cons, List.length_append, rootW_len pl (h r (List.mem_cons_self ..)), roots_len pl rs (fun y hy => h y (List.mem_cons_of_mem _ hy)), List.length_cons]
    omega
theorem nodes_len (pl : List Nat) : ∀ (ns : List Nv), (ns.flatMap (nodeW pl)).length = endL ns 0
  | [] => rfl
  | x :: ns => by
    rw [List.flatMap_cons, List.length_append, nodeW_len, nodes_len pl ns]
    show _ = endL ns (0 + szG x)
    rw [endL_add ns (0 + szG x)]
    omega
theorem encW_len (ns : List Nv) (rs : List Rv) (h : ∀ r ∈ rs, r.s.size ≤ 32) : (encW ns rs).length = endL ns (2 + 5 * rs.length) := by
  unfold encW
  rw [List.length_append, List.length_append, roots_len _ rs h, nodes_len, endL_add ns (2 + 5 * rs.length)]
  rfl
end Go.Proofs.Ytaminpfgkegibaa
/- 'append([]byte(s), make([]byte, k)...)': on a row that a conversion has made. Conditions: lengths. -/
namespace Go.Proofs.Ytaminpfgkegibaa
set_option linter.unusedVariables false
set_option linter.unusedSimpArgs false
open Go.RowKit
set_option maxHeartbeats 1000000
/-- Stores into a row that bears a conversion's mark behind its last cell. -/
theorem run_storeM (P : Program) (g : Nat) (t : TypeId) (N : Nat) : ∀ (vs : List Value) (i : Nat) (o : Nat) (cur : Array Value) (w : World), w.heap[g]? = some (.cells cur t (N, N + 1)) → cur.size = N → o + i + vs.length ≤ N → (∀ v ∈ vs, v.oneCell' = true) →
    (storeCells ⟨g, o, none⟩ vs i).run P w = .ok () (w.setRow g (cur.toList.take (o + i) ++ vs ++ cur.toList.drop (o + i + vs.length)).toArray)
  | [], i, o, cur, w, hg, hN, _, _ => by
    simp only [storeCells, List.append_nil, List.length_nil, Nat.add_zero, List.take_append_drop, Array.toArray_toList]
    rw [setRow_self w g cur t (N, N + 1) hg]
    rfl
  | v :: rest, i, o, cur, w, hg, hN, hl, h1 => by
    have hi : o + i < cur.size := by simp at hl; omega
    have hadd : (⟨g, o, none⟩ : Addr).add i = ⟨g, o + i, none⟩ := by unfold Addr.add; split <;> simp_all
    have hcell : w.cell? ⟨g, o + i, none⟩ = some cur[o + i] := by simp [World.cell?, hg, hi]
    have hfro : w.frozen? ⟨g, o + i, none⟩ = false := by simp [World.frozen?, hg]; omega
    have hst : (store ((⟨g, o, none⟩ : Addr).add i) v).run P w = .ok () (w.setRow g (cur.setIfInBounds (o + i) v)) := by
      rw [hadd, run_store P w _ v _ (h1 v (by simp)), hcell]
      simp [hfro, setCell_eq_setRow w g (o + i) cur t (N, N + 1) v hg]
    have ih := run_storeM P g t N rest (i + 1) o (cur.setIfInBounds (o + i) v) (w.setRow g (cur.setIfInBounds (o + i) v)) (setRow_heap w g cur _ t _ hg) (by simpa using hN) (by simp at hl ⊢; omega) (fun x hx => h1 x (by simp [hx]))
    simp only [storeCells, Sem.run_bind, hst, Result.andThen_ok, ih, setRow_setRow]
    congr 3
    have e := list_seg_step cur.toList (o + i) v rest (by simp at hl ⊢; omega)
    simpa [Array.toList_setIfInBounds, Nat.add_assoc] using e
/-- A row with zeros behind it. -/
def ZeroP (w : World) (base : Nat) (n : Nat) (cs : List Value) (v : Value) (w' : World) : Prop :=
  ∃ q c, v = .slice (some ⟨q, 0, none⟩) n c ∧ base ≤ q ∧ q < w'.heap.size ∧ (∀ (j : Nat) (u : Value), cs[j]? = some u → w'.cell? ⟨q, j, none⟩ = some u) ∧ Below base w w'
theorem run_appM {P : Program} (w : World) (base : Nat) (t tn ty e : TypeId) (i : TypeInfo) (z : Value) (kq kn : IntKind) (ht : P.underlying t = some (.slice e)) (htn : P.underlying tn = some (.int kn)) (hi : P.info? e = some i) (hz : i.zero = some z) (hs1 : i.size = 1) (hb1 : i.bytes = 1) (hzc : z.cells = #[z]) (ho : z.oneCell' = true)
    (g n cap : Nat) (cur : Array Value) (hg : w.heap[g]? = some (.cells cur e (cur.size, cur.size + 1))) (hnc : n ≤ cap) (hcs : cap = cur.size) (xs : List Value) (hxl : xs.length = n) (htake : cur.toList.take n = xs) (k : Nat) (hk : 0 < k) (hb : n + k ≤ 1000000000) (hbase : base ≤ g) :
    ∃ v' w', (Builtin.append_ #[t, tn] ty #[.slice (some ⟨g, 0, none⟩) n cap, .int kq k]).run P w = .ok v' w' ∧ ZeroP w base (n + k) (xs ++ List.replicate k z) v' w' := by
  have hlt : g < w.heap.size := (Array.getElem?_eq_some_iff.1 hg).1
  have holds : ∀ j u, xs[j]? = some u → w.cell? ((⟨g, 0, none⟩ : Addr).add j) = some u := fun j u hu => by
    have hj : j < n := by have := (List.getElem?_eq_some_iff.1 hu).1; omega
    have ea : (⟨g, 0, none⟩ : Addr).add j = ⟨g, j, none⟩ := by unfold Addr.add; split <;> simp_all
    rw [← htake, List.getElem?_take_of_lt hj] at hu
    rw [ea]
    simp [World.cell?, hg]
    simpa using hu
  have hk0 : k ≠ 0 := by omega
  have hw : IntKind.i64.wrap (k : Int) = k := by rw [IntKind.wrap_i64]; omega
  have hneg : ¬ ((k : Int) < 0) := by omega
  by_cases hroom : n + k ≤ cap
  · have hfit : n * 1 + 0 + (List.replicate k z).length ≤ cur.size := by rw [List.length_replicate]; omega
    have hst := run_storeM P g e cur.size (List.replicate k z) 0 (n * 1) cur w hg rfl hfit (fun u hu => by rw [(List.mem_replicate.1 hu).2]; exact ho)
    simp only [Nat.add_zero, Nat.mul_one] at hst
    have h63' : ¬ (9223372036854775807 < ((n : Int) + (k : Int))) := by omega
    have h48i : ¬ (281474976710656 < (k : Int)) := by omega
    refine ⟨.slice (some ⟨g, 0, none⟩) (n + k) cap, w.setRow g (cur.toList.take n ++ List.replicate k z ++ cur.toList.drop (n + (List.replicate k z).length)).toArray, ?_, g, cap, rfl, hbase, by simpa using hlt, ?_, below_of_grown (row := some g) ⟨rfl, rfl, rfl, by simp, fun j _ hj => setRow_other w g j _ (fun e => hj (by simp [e]))⟩ (by omega) (fun j e => by injection e with e; omega)⟩
    · simp [Builtin.append_, run_underlying ht, run_underlying htn, sizeOf, typeInfo, zeroValue, hi, hz, hs1, hb1, asInt, asIntOf, hw, hk0, hneg, hroom, h63', h48i, Question.forced, hzc, zeroCells_list, zeroCells_arr, Addr.add_lit, hst]
    · intro j u hu
      rw [cell_setRow_same w g j _ _ e _ hg, htake]
      have hj := (List.getElem?_eq_some_iff.1 hu).1
      rw [List.getElem?_toArray, List.getElem?_append_left hj]
      exact hu
  · have hf : (Builtin.firstCells i.size n (.slice (some ⟨g, 0, none⟩) n cap)).run P w.drew = .ok xs.toArray w.drew :=
      run_firstCells_some (P := P) w.drew i.size n ⟨g, 0, none⟩ n cap xs (by rw [hs1]; omega) holds
    have hr := Lib.run_append_grow_zeros (P := P) w t tn ty e i z kq kn ht htn hi hz (some ⟨g, 0, none⟩) n cap xs hf k hk (by omega) (by omega) (by omega) (by rw [hb1]; omega) (growslice_fits (by omega) (by rw [hb1]; omega))
    rw [hzc, zeroCells_arr] at hr
    refine ⟨_, _, hr, w.heap.size, _, rfl, by omega, ?_, ?_, ?_⟩
    · simp
    · intro j u hu
      have hj := (List.getElem?_eq_some_iff.1 hu).1
      have hh := heap_alloc_new w.drew (.cells (xs.toArray ++ (List.replicate k z).toArray ++ Builtin.zeroCells #[z] (grownCap w (n + k) cap e - (n + k))) e)
      rw [cell_of_row _ w.heap.size j _ e _ hh]
      rw [← Array.getElem?_toList, Array.toList_append, Array.toList_append]
      rw [List.getElem?_append_left (by simpa using hj)]
      simpa using hu
    · exact ((Gw.drew w).trans ((Gw.alloc w.drew _).mono (Gw.drew w).size)).mono (by omega)
end Go.Proofs.Ytaminpfgkegibaa
/- loamref17.Encode: the region that makes a name's bytes. Conditions: the name's length. -/
namespace Go.Proofs.Ytaminpfgkegibaa
set_option linter.unusedVariables false
set_option linter.unusedSimpArgs false
open Go.RowKit
set_option maxHeartbeats 4000000
set_option maxRecDepth 100000
/-- A row that a conversion of a string has made. -/
def CvV (s : ByteArray) (B : Nat) (v : Value) (w : World) : Prop :=
  ∃ g cur, v = .slice (some ⟨g, 0, none⟩) s.size cur.size ∧ B ≤ g ∧ w.heap[g]? = some (.cells cur 5 (cur.size, cur.size + 1)) ∧ s.size ≤ cur.size ∧ cur.toList.take s.size = s.data.toList.map (fun b => Value.int .u8 b.toNat)
theorem CvV.mono {s : ByteArray} {B : Nat} {v : Value} {a b : World} (h : CvV s B v a) (hg : Below a.heap.size a b) : CvV s B v b := by
  obtain ⟨g, cur, e, hB, hh, h2⟩ := h
  exact ⟨g, cur, e, hB, (hg.block g (Array.getElem?_eq_some_iff.1 hh).1).trans hh, h2⟩
theorem cv_new (s : ByteArray) (w : World) (B : Nat) (hB : B ≤ w.heap.size) (c : Nat) (hc : s.size ≤ c) :
    CvV s B (.slice (some ⟨w.heap.size, 0, none⟩) s.size c) (w.drew.alloc (.cells (bytesRow s c) 5 ((bytesRow s c).size, (bytesRow s c).size + 1))) := by
  have hsz : (bytesRow s c).size = c := by
    have e : s.data.size = s.size := rfl
    unfold bytesRow
    simp [e]
    omega
  refine ⟨w.heap.size, bytesRow s c, by rw [hsz], hB, heap_alloc_new w.drew _, by rw [hsz]; exact hc, ?_⟩
  have e : s.data.toList.length = s.size := rfl
  unfold bytesRow
  rw [Array.toList_append, List.take_append_of_le_length (by simp), Array.toList_map, ← List.map_take, List.take_of_length_le (by rw [e]; exact Nat.le_refl _)]
theorem grownCap_ge0 (s : ByteArray) (w : World) : s.size ≤ grownCap w s.size 0 5 := grownCap_ge w s.size 0 5
theorem en17 (Q : Exit → Act → World → Prop) (a0 : Act) (w : World) (G k M c2 : Nat) (ad : Addr) (s : ByteArray) (hGl : G < w.heap.size) (g1 : w.cell? ⟨G, 1, none⟩ = some (.slice (some ad) M c2)) (hl : (ad.add (k * 2)).block < w.heap.size) (cs : w.cell? (ad.add (k * 2)) = some (.string s)) (hs : s.size ≤ 32) (p0 : (0 : Int) ≤ (k : Int)) (p1 : (k : Int) < (M : Int)) (p2 : (M : Int) ≤ 100000) (hsz : a0.tmps.size = 145) (sl1 : a0.tmps.getD 1 undef = .pointer (some ⟨G, 0, none⟩)) (sl9 : a0.tmps.getD 9 undef = .int .i64 (k : Int))
    (fin : ∀ (vals : Nat → Value) (w1 : World), Below w.heap.size w w1 → (CvV s w.heap.size) (vals 6) w1 → (IsV (.int .i64 (32 - (s.size : Int)))) (vals 14) w1 → wpList Try.prog #[{ dst := some 79, op := Go.Op.call { callee := Go.Callee.builtin Go.Builtin.append, args := #[Go.Operand.tmp 70, Go.Operand.tmp 78], argTypes := #[95, 3] }, type := 95, pos := "", after := #[], guard := none }] (SpineQ (putD vals [64, 65, 66, 67, 68, 69, 70, 71, 72, 73, 74, 75, 76, 77, 78] 0 a0).defers (fun _ => True) (fun a w => wpList Try.prog #[{ dst := some 10, op := Go.Op.assign (Go.Operand.tmp 79), type := 95, pos := "", after := #[], guard := none }] Q [{ dst := some 10, op := Go.Op.assign (Go.Operand.tmp 79), type := 95, pos := "", after := #[], guard := none }] a w)) [{ dst := some 79, op := Go.Op.call { callee := Go.Callee.builtin Go.Builtin.append, args := #[Go.Operand.tmp 70, Go.Operand.tmp 78], argTypes := #[95, 3] }, type := 95, pos := "", after := #[], guard := none }] (putD vals [64, 65, 66, 67, 68, 69, 70, 71, 72, 73, 74, 75, 76, 77, 78] 0 a0) w1) :
    (Code.region 17 (regIn Try.f18 17) true).wp Try.prog Q a0 w := by
  refine region_by_tail2 (m := 15) (G := fun w w1 => Below w.heap.size w w1) [IsV (.pointer (some ⟨G, 1, none⟩)),
    IsV (.slice (some ad) M c2),
    IsV (.int .i64 (k : Int)),
    IsV (.pointer (some (ad.add (k * 2)))),
    IsV (.pointer (some (ad.add (k * 2)))),
    IsV (.string s),
    CvV s w.heap.size,
    IsV (.pointer (some ⟨G, 1, none⟩)),
    IsV (.slice (some ad) M c2),
    IsV (.int .i64 (k : Int)),
    IsV (.pointer (some (ad.add (k * 2)))),
    IsV (.pointer (some (ad.add (k * 2)))),
    IsV (.string s),
    IsV (.int .i64 (s.size : Int)),
    IsV (.int .i64 (32 - (s.size : Int)))]
    [64, 65, 66, 67, 68, 69, 70, 71, 72, 73, 74, 75, 76, 77, 78] (by kernel_rfl) (Gw.drew _) Gw.trans (by rw [hsz]; kernel_rfl) (by kernel_rfl) ?_ ?_ ?_
  · intro f hf
    simp only [List.mem_cons, List.not_mem_nil, or_false] at hf
    rcases hf with rfl | rfl | rfl | rfl | rfl | rfl | rfl | rfl | rfl | rfl | rfl | rfl | rfl | rfl | rfl <;> intro v a b h g <;> first | exact IsV.mono h | exact CvV.mono h g
  · refine ⟨?_, ?_, ?_, ?_, ?_, ?_, ?_, ?_, ?_, ?_, ?_, ?_, ?_, ?_, ?_, trivial⟩
    · refine owes_v (Go.Op.fieldAddr 52 (Go.Operand.tmp 1) 1) 0 [] (by kernel_rfl) (by kernel_rfl) (by kernel_rfl) rfl fun vals w1 ρ hG hF hρ hcst hfun => ?_
      have e1 : ρ (.tmp 1) = .pointer (some ⟨G, 0, none⟩) := ((hρ 1).trans (slotO [] (by kernel_rfl))).trans sl1
      clear hρ hF hcst hfun sl1 sl9 fin
      exact opv_val (by go_simp <;> rfl) ⟨gw_self _, rfl⟩
    · refine owes_v (Go.Op.load 50 (Go.Operand.tmp 64)) 50 [0] (by kernel_rfl) (by kernel_rfl) (by kernel_rfl) rfl fun vals w1 ρ hG hF hρ hcst hfun => ?_
      have e64 : ρ (.tmp 64) = .pointer (some ⟨G, 1, none⟩) := ((hρ 64).trans (slotJ [0] (by rw [hsz]; decide) (by kernel_rfl))).trans (hF 0 (by decide))
      have kk := (hG.cell (p := ⟨G, 1, none⟩) hGl).trans g1
      clear hρ hF hcst hfun sl1 sl9 fin
      exact opv_val (by go_simp <;> rfl) ⟨gw_self _, rfl⟩
    · exact owes_mv 9 (by kernel_rfl) (by kernel_rfl) (by kernel_rfl) sl9 (fun _ => rfl)
    · refine owes_v (Go.Op.indexAddr 50 (Go.Operand.tmp 65) (Go.Operand.tmp 66)) 0 [1, 2] (by kernel_rfl) (by kernel_rfl) (by kernel_rfl) rfl fun vals w1 ρ hG hF hρ hcst hfun => ?_
      have e65 : ρ (.tmp 65) = .slice (some ad) M c2 := ((hρ 65).trans (slotJ [1, 2] (by rw [hsz]; decide) (by kernel_rfl))).trans (hF 1 (by decide))
      have e66 : ρ (.tmp 66) = .int .i64 (k : Int) := ((hρ 66).trans (slotJ [1, 2] (by rw [hsz]; decide) (by kernel_rfl))).trans (hF 2 (by decide))
      clear hρ hF hcst hfun sl1 sl9 fin
      exact opv_val (by go_simp <;> rfl) ⟨gw_self _, rfl⟩
    · refine owes_v (Go.Op.fieldAddr 103 (Go.Operand.tmp 67) 0) 0 [3] (by kernel_rfl) (by kernel_rfl) (by kernel_rfl) rfl fun vals w1 ρ hG hF hρ hcst hfun => ?_
      have e67 : ρ (.tmp 67) = .pointer (some (ad.add (k * 2))) := ((hρ 67).trans (slotJ [3] (by rw [hsz]; decide) (by kernel_rfl))).trans (hF 3 (by decide))
      clear hρ hF hcst hfun sl1 sl9 fin
      exact opv_val (by go_simp <;> rfl) ⟨gw_self _, rfl⟩
    · refine owes_v (Go.Op.load 9 (Go.Operand.tmp 68)) 9 [4] (by kernel_rfl) (by kernel_rfl) (by kernel_rfl) rfl fun vals w1 ρ hG hF hρ hcst hfun => ?_
      have e68 : ρ (.tmp 68) = .pointer (some (ad.add (k * 2))) := ((hρ 68).trans (slotJ [4] (by rw [hsz]; decide) (by kernel_rfl))).trans (hF 4 (by decide))
      have kk := (hG.cell (p := ad.add (k * 2)) hl).trans cs
      clear hρ hF hcst hfun sl1 sl9 fin
      exact opv_val (by go_simp <;> rfl) ⟨gw_self _, rfl⟩
    · refine owes_v (Go.Op.convert 9 95 (Go.Operand.tmp 69)) 95 [5] (by kernel_rfl) (by kernel_rfl) (by kernel_rfl) rfl fun vals w1 ρ hG hF hρ hcst hfun => ?_
      have e69 : ρ (.tmp 69) = .string s := ((hρ 69).trans (slotJ [5] (by rw [hsz]; decide) (by kernel_rfl))).trans (hF 5 (by decide))
      clear hρ hF hcst hfun sl1 sl9 fin
      exact opv_val (by go_simp; simp only [run_bytes_of_string _ _ _ _ s Try.underlying9 Try.underlying95 Try.underlying5]; rfl) ⟨(Gw.drew _).trans ((Gw.alloc _ _).mono (Gw.drew _).size), cv_new s _ _ hG.size _ (grownCap_ge0 s _)⟩
    · refine owes_v (Go.Op.fieldAddr 52 (Go.Operand.tmp 1) 1) 0 [] (by kernel_rfl) (by kernel_rfl) (by kernel_rfl) rfl fun vals w1 ρ hG hF hρ hcst hfun => ?_
      have e1 : ρ (.tmp 1) = .pointer (some ⟨G, 0, none⟩) := ((hρ 1).trans (slotO [] (by kernel_rfl))).trans sl1
      clear hρ hF hcst hfun sl1 sl9 fin
      exact opv_val (by go_simp <;> rfl) ⟨gw_self _, rfl⟩
    · refine owes_v (Go.Op.load 50 (Go.Operand.tmp 71)) 50 [7] (by kernel_rfl) (by kernel_rfl) (by kernel_rfl) rfl fun vals w1 ρ hG hF hρ hcst hfun => ?_
      have e71 : ρ (.tmp 71) = .pointer (some ⟨G, 1, none⟩) := ((hρ 71).trans (slotJ [7] (by rw [hsz]; decide) (by kernel_rfl))).trans (hF 7 (by decide))
      have kk := (hG.cell (p := ⟨G, 1, none⟩) hGl).trans g1
      clear hρ hF hcst hfun sl1 sl9 fin
      exact opv_val (by go_simp <;> rfl) ⟨gw_self _, rfl⟩
    · exact owes_mv 9 (by kernel_rfl) (by kernel_rfl) (by kernel_rfl) sl9 (fun _ => rfl)
    · refine owes_v (Go.Op.indexAddr 50 (Go.Operand.tmp 72) (Go.Operand.tmp 73)) 0 [8, 9] (by kernel_rfl) (by kernel_rfl) (by kernel_rfl) rfl fun vals w1 ρ hG hF hρ hcst hfun => ?_
      have e72 : ρ (.tmp 72) = .slice (some ad) M c2 := ((hρ 72).trans (slotJ [8, 9] (by rw [hsz]; decide) (by kernel_rfl))).trans (hF 8 (by decide))
      have e73 : ρ (.tmp 73) = .int .i64 (k : Int) := ((hρ 73).trans (slotJ [8, 9] (by rw [hsz]; decide) (by kernel_rfl))).trans (hF 9 (by decide))
      clear hρ hF hcst hfun sl1 sl9 fin
      exact opv_val (by go_simp <;> rfl) ⟨gw_self _, rfl⟩
    · refine owes_v (Go.Op.fieldAddr 103 (Go.Operand.tmp 74) 0) 0 [10] (by kernel_rfl) (by kernel_rfl) (by kernel_rfl) rfl fun vals w1 ρ hG hF hρ hcst hfun => ?_
      have e74 : ρ (.tmp 74) = .pointer (some (ad.add (k * 2))) := ((hρ 74).trans (slotJ [10] (by rw [hsz]; decide) (by kernel_rfl))).trans (hF 10 (by decide))
      clear hρ hF hcst hfun sl1 sl9 fin
      exact opv_val (by go_simp <;> rfl) ⟨gw_self _, rfl⟩
    · refine owes_v (Go.Op.load 9 (Go.Operand.tmp 75)) 9 [11] (by kernel_rfl) (by kernel_rfl) (by kernel_rfl) rfl fun vals w1 ρ hG hF hρ hcst hfun => ?_
      have e75 : ρ (.tmp 75) = .pointer (some (ad.add (k * 2))) := ((hρ 75).trans (slotJ [11] (by rw [hsz]; decide) (by kernel_rfl))).trans (hF 11 (by decide))
      have kk := (hG.cell (p := ad.add (k * 2)) hl).trans cs
      clear hρ hF hcst hfun sl1 sl9 fin
      exact opv_val (by go_simp <;> rfl) ⟨gw_self _, rfl⟩
    · refine owes_v (Go.Op.call { callee := Go.Callee.builtin Go.Builtin.len, args := #[Go.Operand.tmp 76], argTypes := #[9] }) 3 [12] (by kernel_rfl) (by kernel_rfl) (by kernel_rfl) rfl fun vals w1 ρ hG hF hρ hcst hfun => ?_
      have e76 : ρ (.tmp 76) = .string s := ((hρ 76).trans (slotJ [12] (by rw [hsz]; decide) (by kernel_rfl))).trans (hF 12 (by decide))
      clear hρ hF hcst hfun sl1 sl9 fin
      exact opv_val (by go_simp <;> rfl) ⟨gw_self _, rfl⟩
    · refine owes_v (Go.Op.binOp Go.BinOp.sub 3 (Go.Operand.const (Go.Value.int Go.IntKind.i64 32)) (Go.Operand.tmp 77) 3) 3 [13] (by kernel_rfl) (by kernel_rfl) (by kernel_rfl) rfl fun vals w1 ρ hG hF hρ hcst hfun => ?_
      have e77 : ρ (.tmp 77) = .int .i64 (s.size : Int) := ((hρ 77).trans (slotJ [13] (by rw [hsz]; decide) (by kernel_rfl))).trans (hF 13 (by decide))
      have kw0 : IntKind.i64.wrap ((32 - (s.size : Int))) = (32 - (s.size : Int)) := wrapIn (by omega) (by omega)
      clear hρ hF hfun sl1 sl9 fin
      exact opv_val (by go_simp <;> rfl) ⟨gw_self _, rfl⟩
  · intro vals w1 hG hF
    exact next_spine2 (by kernel_rfl) (by kernel_rfl) (by kernel_rfl) (by kernel_rfl) (by kernel_rfl) (by kernel_rfl) (fin vals w1 hG (hF 6 (by decide +kernel)) (hF 14 (by decide +kernel)))
end Go.Proofs.Ytaminpfgkegibaa
/- loamref17.Need, Encode. Conditions: a graph of few nodes. -/
namespace Go.Proofs.Ytaminpfgkegibaa
set_option linter.unusedVariables false
set_option linter.unusedSimpArgs false
open Go.RowKit Go.Maps
set_option maxHeartbeats 4000000
set_option maxRecDepth 100000
theorem few_words {g : Gv} (h : FewP g) : 0 ≤ wordsL g.n ∧ wordsL g.n ≤ 100000 := by
  have h1 : ∀ l : List Nv, 0 ≤ wordsL l ∧ wordsL l ≤ 300 * (l.length : Int) := by
    intro l
    induction l with
    | nil => exact ⟨Int.le_refl _, Int.le_refl _⟩
    | cons x r ih =>
      have hx := szN_le x
      show 0 ≤ szN x + wordsL r ∧ szN x + wordsL r ≤ _
      rw [List.length_cons]
      omega
  have h2 := h1 g.n
  have h3 := h.1
  omega
theorem nd1 (Q : Exit → Act → World → Prop) (a0 : Act) (w : World) (G N M c c2 : Nat) (A A2 : Option Addr) (z : Int) (hGl : G < w.heap.size) (g0 : w.cell? ⟨G, 0, none⟩ = some (.slice A N c)) (g1 : w.cell? ⟨G, 1, none⟩ = some (.slice A2 M c2)) (hM : (M : Int) ≤ 100000) (z0 : 0 ≤ z) (z1 : z ≤ 100000) (hw : Hid (∀ W, Below w.heap.size w W → Calls Try.prog 74 #[.agg #[.slice A N c, .slice A2 M c2]] W (RetP (.int .i64 z) W))) (hsz : a0.tmps.size = 11) (sl1 : a0.tmps.getD 1 undef = .pointer (some ⟨G, 0, none⟩))
    (fin : ∀ (vals : Nat → Value) (w1 : World), Below w.heap.size w w1 → (IsV (.int .i64 (2 + 5 * (M : Int) + z))) (vals 8) w1 → Q .normal (putD vals [3, 4, 5, 6, 7, 8, 9, 10, 2] 0 a0) w1) :
    (Code.region 1 (regIn Try.f40 1) true).wp Try.prog Q a0 w := by
  refine region_by (G := fun w w1 => Below w.heap.size w w1) [IsV (.pointer (some ⟨G, 1, none⟩)),
    IsV (.slice A2 M c2),
    IsV (.int .i64 (M : Int)),
    IsV (.int .i64 (5 * (M : Int))),
    IsV (.int .i64 (2 + 5 * (M : Int))),
    IsV (.agg #[.slice A N c, .slice A2 M c2]),
    IsV (.int .i64 z),
    IsV (.int .i64 (2 + 5 * (M : Int) + z)),
    IsV (.int .i64 (2 + 5 * (M : Int) + z))]
    [3, 4, 5, 6, 7, 8, 9, 10, 2] (by kernel_rfl) (Gw.drew _) Gw.trans (by rw [hsz]; kernel_rfl) (by kernel_rfl) ?_ ?_ ?_
  · intro f hf
    simp only [List.mem_cons, List.not_mem_nil, or_false] at hf
    rcases hf with rfl | rfl | rfl | rfl | rfl | rfl | rfl | rfl | rfl <;> intro v a b h g <;> first | exact IsV.mono h
  · refine ⟨?_, ?_, ?_, ?_, ?_, ?_, ?_, ?_, ?_, trivial⟩
    · refine owes_v (Go.Op.fieldAddr 52 (Go.Operand.tmp 1) 1) 0 [] (by kernel_rfl) (by kernel_rfl) (by kernel_rfl) rfl fun vals w1 ρ hG hF hρ hcst hfun => ?_
      have e1 : ρ (.tmp 1) = .pointer (some ⟨G, 0, none⟩) := ((hρ 1).trans (slotO [] (by kernel_rfl))).trans sl1
      clear hρ hF hcst hfun sl1 fin
      exact opv_val (by go_simp <;> rfl) ⟨gw_self _, rfl⟩
    · refine owes_v (Go.Op.load 50 (Go.Operand.tmp 3)) 50 [0] (by kernel_rfl) (by kernel_rfl) (by kernel_rfl) rfl fun vals w1 ρ hG hF hρ hcst hfun => ?_
      have e3 : ρ (.tmp 3) = .pointer (some ⟨G, 1, none⟩) := ((hρ 3).trans (slotJ [0] (by rw [hsz]; decide) (by kernel_rfl))).trans (hF 0 (by decide))
      have kk := (hG.cell (p := ⟨G, 1, none⟩) hGl).trans g1
      clear hρ hF hcst hfun sl1 fin
      exact opv_val (by go_simp <;> rfl) ⟨gw_self _, rfl⟩
    · refine owes_v (Go.Op.call { callee := Go.Callee.builtin Go.Builtin.len, args := #[Go.Operand.tmp 4], argTypes := #[50] }) 3 [1] (by kernel_rfl) (by kernel_rfl) (by kernel_rfl) rfl fun vals w1 ρ hG hF hρ hcst hfun => ?_
      have e4 : ρ (.tmp 4) = .slice A2 M c2 := ((hρ 4).trans (slotJ [1] (by rw [hsz]; decide) (by kernel_rfl))).trans (hF 1 (by decide))
      clear hρ hF hcst hfun sl1 fin
      exact opv_val (by go_simp <;> rfl) ⟨gw_self _, rfl⟩
    · refine owes_v (Go.Op.binOp Go.BinOp.mul 3 (Go.Operand.const (Go.Value.int Go.IntKind.i64 5)) (Go.Operand.tmp 5) 3) 3 [2] (by kernel_rfl) (by kernel_rfl) (by kernel_rfl) rfl fun vals w1 ρ hG hF hρ hcst hfun => ?_
      have e5 : ρ (.tmp 5) = .int .i64 (M : Int) := ((hρ 5).trans (slotJ [2] (by rw [hsz]; decide) (by kernel_rfl))).trans (hF 2 (by decide))
      have kw0 : IntKind.i64.wrap ((5 * (M : Int))) = (5 * (M : Int)) := wrapIn (by omega) (by omega)
      clear hρ hF hfun sl1 fin
      exact opv_val (by go_simp <;> rfl) ⟨gw_self _, rfl⟩
    · refine owes_v (Go.Op.binOp Go.BinOp.add 3 (Go.Operand.const (Go.Value.int Go.IntKind.i64 2)) (Go.Operand.tmp 6) 3) 3 [3] (by kernel_rfl) (by kernel_rfl) (by kernel_rfl) rfl fun vals w1 ρ hG hF hρ hcst hfun => ?_
      have e6 : ρ (.tmp 6) = .int .i64 (5 * (M : Int)) := ((hρ 6).trans (slotJ [3] (by rw [hsz]; decide) (by kernel_rfl))).trans (hF 3 (by decide))
      have kw0 : IntKind.i64.wrap ((2 + 5 * (M : Int))) = (2 + 5 * (M : Int)) := wrapIn (by omega) (by omega)
      clear hρ hF hfun sl1 fin
      exact opv_val (by go_simp <;> rfl) ⟨gw_self _, rfl⟩
    · refine owes_v (Go.Op.load 52 (Go.Operand.tmp 1)) 52 [] (by kernel_rfl) (by kernel_rfl) (by kernel_rfl) rfl fun vals w1 ρ hG hF hρ hcst hfun => ?_
      have e1 : ρ (.tmp 1) = .pointer (some ⟨G, 0, none⟩) := ((hρ 1).trans (slotO [] (by kernel_rfl))).trans sl1
      have k0 := (hG.cell (p := ⟨G, 0, none⟩) hGl).trans g0; have k1 := (hG.cell (p := ⟨G, 1, none⟩) hGl).trans g1
      clear hρ hF hcst hfun sl1 fin
      exact opv_val (by go_simp <;> rfl) ⟨gw_self _, rfl⟩
    · refine owes_v (Go.Op.call { callee := Go.Callee.value (Go.Operand.func 74), args := #[Go.Operand.tmp 8], argTypes := #[52] }) 3 [5] (by kernel_rfl) (by kernel_rfl) (by kernel_rfl) rfl fun vals w1 ρ hG hF hρ hcst hfun => ?_
      have e8 : ρ (.tmp 8) = .agg #[.slice A N c, .slice A2 M c2] := ((hρ 8).trans (slotJ [5] (by rw [hsz]; decide) (by kernel_rfl))).trans (hF 5 (by decide))
      clear hρ hF hcst sl1 fin
      exact opv_enter (by go_simp <;> rfl) (of_ret (hw.out w1 hG))
    · refine owes_v (Go.Op.binOp Go.BinOp.add 3 (Go.Operand.tmp 7) (Go.Operand.tmp 9) 3) 3 [4, 6] (by kernel_rfl) (by kernel_rfl) (by kernel_rfl) rfl fun vals w1 ρ hG hF hρ hcst hfun => ?_
      have e7 : ρ (.tmp 7) = .int .i64 (2 + 5 * (M : Int)) := ((hρ 7).trans (slotJ [4, 6] (by rw [hsz]; decide) (by kernel_rfl))).trans (hF 4 (by decide))
      have e9 : ρ (.tmp 9) = .int .i64 z := ((hρ 9).trans (slotJ [4, 6] (by rw [hsz]; decide) (by kernel_rfl))).trans (hF 6 (by decide))
      have kw0 : IntKind.i64.wrap ((2 + 5 * (M : Int) + z)) = (2 + 5 * (M : Int) + z) := wrapIn (by omega) (by omega)
      clear hρ hF hcst hfun sl1 fin
      exact opv_val (by go_simp <;> rfl) ⟨gw_self _, rfl⟩
    · exact owes_mvj 7 10 (by kernel_rfl) (by kernel_rfl) (by kernel_rfl) (by kernel_rfl) (by rw [hsz]; decide) (fun v w h => h)
  · intro vals w1 hG hF
    exact fin vals w1 hG (hF 8 (by decide +kernel))
theorem rneed_c (w : World) (g : Gv) (hg : g.At w w.heap.size) (hs : FewP g) : Calls Try.prog 40 #[g.v] w (RetP (.int .i64 (2 + 5 * (g.r.length : Int) + wordsL g.n)) w) := by
  have HW := Lib.hid (fun W (b : Below w.heap.size w W) => rwords_c W g (hg.up b) hs.small)
  obtain ⟨z0, z1⟩ := few_words hs
  obtain ⟨z, hz⟩ : ∃ z, z = wordsL g.n := ⟨_, rfl⟩
  rw [← hz] at HW z0 z1 ⊢
  have hM := hs.2.1
  obtain ⟨A, ca, A2, ca2, ns, rs⟩ := g
  obtain ⟨N, hN⟩ : ∃ N, N = ns.length := ⟨_, rfl⟩
  obtain ⟨M, hMM⟩ : ∃ M, M = rs.length := ⟨_, rfl⟩
  unfold Gv.v Gv.vn Gv.vr at HW ⊢
  simp only at HW hM ⊢
  rw [← hMM] at HW hM ⊢
  rw [← hN] at HW ⊢
  have hMi : (M : Int) ≤ 100000 := by omega
  clear hg hs hz hN hMM hM
  go_enter Try.func40, Try.ntmps40
  go_wp2_with fail
  obtain ⟨G, hG⟩ : ∃ G, G = w.heap.size := ⟨_, rfl⟩
  obtain ⟨w1, hw1⟩ : ∃ W, W = w.alloc (.cells #[.slice A N ca, .slice A2 M ca2] 52) := ⟨_, rfl⟩
  have hbk : Bk w1 G 52 #[.slice A N ca, .slice A2 M ca2] := by rw [hw1, hG]; exact Bk.new w _ _
  have b1 : Below w.heap.size w w1 := by rw [hw1]; exact Gw.alloc w _
  rw [← hw1, ← hG]
  have HW1 := Lib.hid (fun W (b : Below w1.heap.size w1 W) => HW.out W (b1.trans (b.mono b1.size)))
  have hGl := hbk.lt
  have H1 := Lib.hid b1
  obtain ⟨g0, g1⟩ := hbk.two
  clear hw1 hG hbk b1 HW
  refine nd1 _ _ _ G N M ca ca2 A A2 z hGl g0 g1 hMi z0 z1 (Lib.hid (fun W b => (HW1.out W b).mono fun r w' h => h)) rfl ?_ ?_
  · rfl
  intro vals w2 hG2 h2
  unfold IsV at h2
  simp only [putD, Act.put, List.setIfInBounds_toArray, List.set_cons_zero, List.set_cons_succ, h2]
  have H2 := Lib.hid (H1.out.trans (hG2.mono H1.out.size))
  clear hG2 h2
  go_wp2_with fail
  go_ret
  exact ⟨rfl, H2.out⟩
end Go.Proofs.Ytaminpfgkegibaa
/- loamref17.Encode: the append that fills a name up; the row of the first two words. Conditions: lengths. -/
namespace Go.Proofs.Ytaminpfgkegibaa
set_option linter.unusedVariables false
set_option linter.unusedSimpArgs false
open Go.RowKit
set_option maxHeartbeats 2000000
theorem run_appM0 {P : Program} (w : World) (t tn ty e : TypeId) (i : TypeInfo) (z : Value) (kq kn : IntKind) (ht : P.underlying t = some (.slice e)) (htn : P.underlying tn = some (.int kn)) (hi : P.info? e = some i) (hz : i.zero = some z) (hs1 : i.size = 1) (hb1 : i.bytes = 1)
    (g n cap : Nat) (hn : n ≤ cap) (hb : n ≤ 1000000000) : (Builtin.append_ #[t, tn] ty #[.slice (some ⟨g, 0, none⟩) n cap, .int kq 0]).run P w = .ok (.slice (some ⟨g, 0, none⟩) n cap) w := by
  have hw : IntKind.i64.wrap (0 : Int) = 0 := by rw [IntKind.wrap_i64]; omega
  have h63' : ¬ (9223372036854775807 < (n : Int)) := by omega
  simp [Builtin.append_, run_underlying ht, run_underlying htn, sizeOf, typeInfo, zeroValue, hi, hz, hs1, hb1, asInt, asIntOf, hw, hn, h63', Question.forced]
  rfl
theorem nameW_cells {s : ByteArray} (cs : List Value) (h : cs = s.data.toList.map (fun b => Value.int .u8 b.toNat)) : cs ++ List.replicate (32 - s.size) (Value.int .u8 0) = (nameW s).map b8 := by
  subst h
  unfold nameW
  rw [List.map_append, List.map_map, List.map_replicate]
  rfl
theorem rd_cells {α : Type} {f : α → Value} {w : World} {q : Nat} {xs : List α} (hq : q < w.heap.size) (h : ∀ (j : Nat) (u : Value), (xs.map f)[j]? = some u → w.cell? ⟨q, j, none⟩ = some u) : Rd f w w.heap.size (some ⟨q, 0, none⟩) xs := by
  intro j hj
  refine ⟨_, rfl, hq, ?_⟩
  rw [add_off, Nat.zero_add]
  exact h j _ (by rw [List.getElem?_map, List.getElem?_eq_getElem hj]; rfl)
theorem wp_nm {ops : Array Oper} {rest : List Oper} {o : Oper} {a : Act} {w : World} {Q : Exit → Act → World → Prop} (hgd : o.guard = none) (s x : Operand)
    (ho : o.op = .call { callee := .builtin .append, args := #[s, x], argTypes := #[95, 3] })
    (base : Nat) (nm : ByteArray) (v : Value) (hs : a.eval s = v) (hcv : CvV nm base v w) (hz : nm.size ≤ 32) (z : Int) (hzz : z = 32 - (nm.size : Int)) (hx : a.eval x = .int .i64 z) (hbase : base ≤ w.heap.size)
    (h : ∀ (q c : Nat) (w' : World), Rd b8 w' w'.heap.size (some ⟨q, 0, none⟩) (nameW nm) → Below base w w' → wpList Try.prog ops Q rest (a.put o.dst (.slice (some ⟨q, 0, none⟩) 32 c)) w') : wpList Try.prog ops Q (o :: rest) a w := by
  obtain ⟨g, cur, rfl, hB, hh, hnc, htk⟩ := hcv
  have hlt : g < w.heap.size := (Array.getElem?_eq_some_iff.1 hh).1
  have hI := infoB
  cases hi : Try.prog.info? 5 with
  | none => rw [hi] at hI; cases hI
  | some i =>
    rw [hi] at hI
    simp only [Option.map_some, Option.some.injEq, Prod.mk.injEq] at hI
    have hcl : (cur.toList.take nm.size).length = nm.size := by rw [List.length_take]; simp; omega
    by_cases hk : nm.size = 32
    · have hz0 : z = 0 := by omega
      subst hz0
      have hr := run_appM0 (P := Try.prog) w 95 3 o.type 5 i (.int .u8 0) .i64 .i64 Try.underlying95 Try.underlying3 hi hI.1 hI.2.1 hI.2.2 g nm.size cur.size hnc (by omega)
      refine Lib.wpList_append_run w hgd s x _ _ ho _ _ hs hx _ w hr ?_
      rw [hk]
      refine h g cur.size w (rd_cells hlt fun j u hu => ?_) (Below.refl _ _)
      rw [← nameW_cells _ htk, hk, Nat.sub_self, List.replicate_zero, List.append_nil, List.getElem?_take_of_lt (by have := (List.getElem?_eq_some_iff.1 hu).1; simp [nameW_len hz] at this; omega)] at hu
      simp [World.cell?, hh]
      simpa using hu
    · obtain ⟨v', w', hr, q, c, e1, hq1, hq2, hc, hb⟩ := run_appM (P := Try.prog) w base 95 3 o.type 5 i (.int .u8 0) .i64 .i64 Try.underlying95 Try.underlying3 hi hI.1 hI.2.1 hI.2.2 rfl rfl g nm.size cur.size cur hh hnc rfl _ hcl rfl (32 - nm.size) (by omega) (by omega) hB
      subst e1
      have hze : z = ((32 - nm.size : Nat) : Int) := by omega
      rw [hze] at hx
      refine Lib.wpList_append_run w hgd s x _ _ ho _ _ hs hx _ w' hr ?_
      rw [show nm.size + (32 - nm.size) = 32 from by omega]
      refine h q c w' (rd_cells hq2 fun j u hu => hc j u ?_) hb
      rw [nameW_cells _ htk]
      exact hu
theorem ow_front (w : World) (R t : Nat) (h : R + t * 65536 < 18446744073709551616) : Ow u64v 57 (w.alloc (.cells #[.int .u64 1296125772, .int .u64 ((R : Int) + (t : Int) * 65536)] 57)) w.heap.size (.slice (some ⟨w.heap.size, 0, none⟩) 2 2) (frontW R t) := by
  have e : u64v (BitVec.ofNat 64 (R + t * 65536)) = .int .u64 ((R : Int) + (t : Int) * 65536) := by
    unfold u64v U64
    rw [BitVec.toNat_ofNat, Nat.mod_eq_of_lt (by omega)]
    first | rfl | (congr 1; done) | (congr 1; omega)
  refine ⟨rfl, .inr ⟨w.heap.size, 2, _, rfl, Nat.le_refl _, heap_alloc_new w _, Nat.le_refl _, by simp [maxLen], rfl, ?_⟩⟩
  unfold frontW
  rw [List.map_cons, List.map_cons, List.map_nil, e]
  rfl
end Go.Proofs.Ytaminpfgkegibaa
