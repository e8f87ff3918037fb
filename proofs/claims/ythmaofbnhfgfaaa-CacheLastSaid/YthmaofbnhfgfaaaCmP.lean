/- CacheLast: the steps on its one key, and its last line. Conditions: lengths. -/
import Derived.Test.YthmaofbnhfgfaaaCmO
import Derived.Test.YthmaofbnhfgfaaaRegV
import Derived.Test.YthmaofbnhfgfaaaRegT
namespace Go.Proofs.Ythmaofbnhfgfaaa
set_option linter.unusedVariables false
set_option linter.unusedSimpArgs false
open Go.RowKit Go.Maps
set_option maxHeartbeats 1000000
set_option maxRecDepth 100000
/-- The cache behind j turns of the loop. -/
def LT (g fb mb : Nat) (ps : List Pt) : Nat → World → Prop
  | 0, W => CaAt W g fb mb 3 [frZ, frZ, frZ] 0 [] none
  | j + 1, W => ∃ f : Fr, CaAt W g fb mb 3 [f, frZ, frZ] 0 [((1, 7), 0)] none ∧ f.k = (1, 7) ∧ f.full = true ∧ f.dirty = true ∧ ∀ h : j < ps.length, f.b = ps[j].2.1
theorem LT.below {g fb mb j : Nat} {ps : List Pt} {W W' : World} (h : LT g fb mb ps j W) (hb : Below W.heap.size W W') : LT g fb mb ps j W' := by
  cases j with
  | zero => exact CaAt.below h hb
  | succ j => obtain ⟨f, h1, h2⟩ := h; exact ⟨f, h1.below hb, h2⟩
theorem LT.out {g fb mb j b : Nat} {ps : List Pt} {W W' : World} (h : LT g fb mb ps j W) (hb : Bk W b 32 outC) (hk : Kept (fun k => k = b) W W') (hn : ¬ Cx g fb mb b) : LT g fb mb ps j W' := by
  cases j with
  | zero => exact CaAt.out h hb hk hn
  | succ j => obtain ⟨f, h1, h2⟩ := h; exact ⟨f, h1.out hb hk hn, h2⟩
theorem lt_put {g fb mb : Nat} {ps : List Pt} {V : World} (j : Nat) (hj : j < ps.length) (h : LT g fb mb ps j V) (A : Option Addr) (bs : List (BitVec 8)) (n c : Nat) (hbs : bs = ps[j].2.1) (hn : n = bs.length) (hl : n ≤ 1000000) (hr : Rd b8 V V.heap.size A bs) (hA : ∀ a, A = some a → bs ≠ [] → ¬ Cx g fb mb a.block) (d : Bool) (hd : ((j : Int) == 0) = d) :
    Calls Try.prog 8 #[.pointer (some ⟨g, 0, none⟩), .agg #[.int .i64 1, .int .i64 7], .slice A n c, .bool d] V fun e w' => e = .returned (.tuple #[outZ, .int .i64 0]) ∧ LT g fb mb ps (j + 1) w' ∧ Kept (Cx g fb mb) V w' := by
  cases j with
  | zero =>
    have e : d = true := by rw [← hd]; rfl
    rw [e]
    refine (put_new h (1, 7) (kw2 1 7 (by decide) (by decide)) rfl A bs n c hn hl hr hA true 0 0 0 none 0 0 false false [frZ, frZ, frZ] 0 [] (by decide) rfl (by decide) (fun f hf a e _ => by
      simp only [List.mem_cons, List.not_mem_nil, or_false] at hf; rcases hf with rfl | rfl | rfl <;> cases e)
      (fun W hW => (room_empty (CaAt.below h hW) 0 (by decide) (fun j hj hj2 => absurd hj2 (by omega)) (fun hj => rfl)).mono (fun e w' he => ⟨he.1, ((CaAt.below h hW).below he.2).hole 0 (by decide) rfl, Kept.of_below he.2 _⟩))).mono (fun e w' he => ?_)
    obtain ⟨A2, c2, rfl, h2, k2⟩ := he
    exact ⟨rfl, ⟨frN (1, 7) bs true A2 c2, h2, rfl, rfl, rfl, fun _ => hbs⟩, k2⟩
  | succ j =>
    have e : d = false := by rw [← hd]; simp; omega
    rw [e]
    obtain ⟨f, h1, h2, h3, h4, _⟩ := h
    refine (put_hit h1 (1, 7) (kw2 1 7 (by decide) (by decide)) 0 (by simp) h3 h2 A bs n c hn hl hr false).mono (fun e w' he => ?_)
    obtain ⟨A2, c2, rfl, h5, k5⟩ := he
    exact ⟨rfl, ⟨f.put bs false A2 c2, h5, h2, h3, by show (f.dirty || false) = true; rw [h4]; rfl, fun _ => hbs⟩, k5⟩
theorem iv_of {f : FuncId} {args : Array Value} {w : World} {u : Value} (h : Calls Try.prog f args w fun e w' => e = .returned u ∧ w' = w) : Calls Try.prog f args w fun e w2 => ∃ v, e = .returned v ∧ Below w.heap.size w w2 ∧ IsV u v w2 :=
  h.mono fun e w2 h => ⟨u, h.1, by rw [h.2]; exact Below.refl _ _, rfl⟩
/-- A slice of n elements. -/
def DlV (n : Nat) (v : Value) (_ : World) : Prop := ∃ A c, v = .slice A n c
theorem DlV.mono {n : Nat} {v : Value} {a b : World} (h : DlV n v a) (_ : Below a.heap.size a b) : DlV n v b := h
theorem dl_of {f : FuncId} {args : Array Value} {w : World} {n : Nat} (h : Calls Try.prog f args w fun e w' => ∃ A c, e = .returned (.slice A n c) ∧ Below w.heap.size w w') : Calls Try.prog f args w fun e w2 => ∃ v, e = .returned v ∧ Below w.heap.size w w2 ∧ DlV n v w2 :=
  h.mono fun e w2 h => by obtain ⟨A, c, rfl, hb⟩ := h; exact ⟨_, rfl, hb, A, c, rfl⟩
theorem last_reg (Q : Exit → Act → World → Prop) (a0 : Act) (w : World) (g fb mb Nn hand N cL J nb cb cj n : Nat) (AL Ab Aj : Option Addr) (ad : Addr) (fs : List Fr) (tb : Tk) (bs : List (BitVec 8)) (str : ByteArray) (cl : Bool) (hAL : AL = some ad) (hN : (N : Int) - 1 = (J : Int)) (hJ : (J : Int) < (N : Int)) (q1 : (0 : Int) ≤ (J : Int)) (q2 : (J : Int) ≤ 100) (hs : Hid (str = strB bs)) (hn : Hid (nb = bs.length)) (hr : Rd b8 w w.heap.size Ab bs) (hrj : Rd b8 w w.heap.size Aj bs) (hab : ad.block < w.heap.size) (c3 : w.cell? (ad.add J) = some (.slice Aj nb cj)) (hd : CaAt w g fb mb Nn fs hand tb none) (hdl : Hid (n = (dkL fs).length ∧ n ≤ 1)) (ht : (tb.length : Int) = 1) (hz : ((n : Int) == 0) = cl) (hsz : a0.tmps.size = 97) (sl0 : a0.tmps.getD 0 undef = .slice AL N cL) (sl1 : a0.tmps.getD 1 undef = .bool cl) (sl5 : a0.tmps.getD 5 undef = .pointer (some ⟨g, 0, none⟩)) (sl11 : a0.tmps.getD 11 undef = .slice Ab nb cb) (sl12 : a0.tmps.getD 12 undef = .bool true)
    (fin : ∀ (vals : Nat → Value) (w1 : World), Below w.heap.size w w1 → (IsV (.bool true)) (vals 26) w1 → Q .normal (putD vals [71, 72, 73, 74, 75, 76, 77, 78, 79, 80, 81, 82, 83, 84, 85, 86, 87, 88, 89, 90, 91, 92, 93, 94, 95, 96, 4] 0 a0) w1) :
    (Code.region 18 (regIn Try.f5 18) true).wp Try.prog Q a0 w := by
  refine region_by (G := fun w w1 => Below w.heap.size w w1) [IsV (.bool true),
    IsV (.bool true),
    IsV (.slice Ab nb cb),
    IsV (.string str),
    IsV (.slice AL N cL),
    IsV (.slice AL N cL),
    IsV (.int .i64 N),
    IsV (.int .i64 J),
    IsV (.pointer (some (ad.add J))),
    IsV (.slice Aj nb cj),
    IsV (.string str),
    IsV (.bool true),
    IsV (.bool true),
    IsV (.bool true),
    IsV (.pointer (some ⟨g, 0, none⟩)),
    DlV n,
    IsV (.int .i64 n),
    IsV (.bool cl),
    IsV (.bool cl),
    IsV (.bool true),
    IsV (.bool true),
    IsV (.bool true),
    IsV (.pointer (some ⟨g, 0, none⟩)),
    IsV (.int .i64 1),
    IsV (.bool true),
    IsV (.bool true),
    IsV (.bool true)]
    [71, 72, 73, 74, 75, 76, 77, 78, 79, 80, 81, 82, 83, 84, 85, 86, 87, 88, 89, 90, 91, 92, 93, 94, 95, 96, 4] (by kernel_rfl) (Gw.drew _) Gw.trans (by rw [hsz]; kernel_rfl) (by kernel_rfl) ?_ ?_ ?_
  · intro f hf
    simp only [List.mem_cons, List.not_mem_nil, or_false] at hf
    rcases hf with rfl | rfl | rfl | rfl | rfl | rfl | rfl | rfl | rfl | rfl | rfl | rfl | rfl | rfl | rfl | rfl | rfl | rfl | rfl | rfl | rfl | rfl | rfl | rfl | rfl | rfl | rfl <;> intro v a b h g <;> first | exact IsV.mono h | exact DlV.mono h g
  · refine ⟨?_, ?_, ?_, ?_, ?_, ?_, ?_, ?_, ?_, ?_, ?_, ?_, ?_, ?_, ?_, ?_, ?_, ?_, ?_, ?_, ?_, ?_, ?_, ?_, ?_, ?_, ?_, trivial⟩
    · exact owes_mv 12 (by kernel_rfl) (by kernel_rfl) (by kernel_rfl) sl12 (fun _ => rfl)
    · exact owes_mvj 0 71 (by kernel_rfl) (by kernel_rfl) (by kernel_rfl) (by kernel_rfl) (by rw [hsz]; decide) (fun v w h => h)
    · refine owes_vt 1 true (Go.Op.move (Go.Operand.tmp 11)) 30 [] (by kernel_rfl) (by kernel_rfl) (by kernel_rfl) (fun _ _ h => h) (by rw [hsz]; kernel_rfl) (by kernel_rfl) rfl fun vals w1 ρ hG hF hρ hcst hfun => ?_
      have e11 : ρ (.tmp 11) = .slice Ab nb cb := ((hρ 11).trans (slotO [] (by kernel_rfl))).trans sl11
      clear hρ hF hcst hfun sl0 sl1 sl5 sl11 sl12 fin
      exact opv_val (by go_simp <;> rfl) ⟨gw_self _, rfl⟩
    · refine owes_vt 1 true (Go.Op.convert 30 9 (Go.Operand.tmp 73)) 9 [2] (by kernel_rfl) (by kernel_rfl) (by kernel_rfl) (fun _ _ h => h) (by rw [hsz]; kernel_rfl) (by kernel_rfl) rfl fun vals w1 ρ hG hF hρ hcst hfun => ?_
      have e73 : ρ (.tmp 73) = .slice Ab nb cb := ((hρ 73).trans (slotJ [2] (by rw [hsz]; decide) (by kernel_rfl))).trans (hF 2 (by decide))
      have k := str_conv bs Ab cb _ w1 (hr.below hG)
      rw [← hn.out, ← hs.out] at k
      clear hρ hF hcst hfun sl0 sl1 sl5 sl11 sl12 fin
      exact opv_val (by go_simp <;> rfl) ⟨gw_self _, rfl⟩
    · refine owes_vt 1 true (Go.Op.move (Go.Operand.tmp 0)) 40 [] (by kernel_rfl) (by kernel_rfl) (by kernel_rfl) (fun _ _ h => h) (by rw [hsz]; kernel_rfl) (by kernel_rfl) rfl fun vals w1 ρ hG hF hρ hcst hfun => ?_
      have e0 : ρ (.tmp 0) = .slice AL N cL := ((hρ 0).trans (slotO [] (by kernel_rfl))).trans sl0
      clear hρ hF hcst hfun sl0 sl1 sl5 sl11 sl12 fin
      exact opv_val (by go_simp <;> rfl) ⟨gw_self _, rfl⟩
    · refine owes_vt 1 true (Go.Op.move (Go.Operand.tmp 0)) 40 [] (by kernel_rfl) (by kernel_rfl) (by kernel_rfl) (fun _ _ h => h) (by rw [hsz]; kernel_rfl) (by kernel_rfl) rfl fun vals w1 ρ hG hF hρ hcst hfun => ?_
      have e0 : ρ (.tmp 0) = .slice AL N cL := ((hρ 0).trans (slotO [] (by kernel_rfl))).trans sl0
      clear hρ hF hcst hfun sl0 sl1 sl5 sl11 sl12 fin
      exact opv_val (by go_simp <;> rfl) ⟨gw_self _, rfl⟩
    · refine owes_vt 1 true (Go.Op.call { callee := Go.Callee.builtin Go.Builtin.len, args := #[Go.Operand.tmp 76], argTypes := #[40] }) 3 [5] (by kernel_rfl) (by kernel_rfl) (by kernel_rfl) (fun _ _ h => h) (by rw [hsz]; kernel_rfl) (by kernel_rfl) rfl fun vals w1 ρ hG hF hρ hcst hfun => ?_
      have e76 : ρ (.tmp 76) = .slice AL N cL := ((hρ 76).trans (slotJ [5] (by rw [hsz]; decide) (by kernel_rfl))).trans (hF 5 (by decide))
      clear hρ hF hcst hfun sl0 sl1 sl5 sl11 sl12 fin
      exact opv_val (by go_simp <;> rfl) ⟨gw_self _, rfl⟩
    · refine owes_vt 1 true (Go.Op.binOp Go.BinOp.sub 3 (Go.Operand.tmp 77) (Go.Operand.const (Go.Value.int Go.IntKind.i64 1)) 3) 3 [6] (by kernel_rfl) (by kernel_rfl) (by kernel_rfl) (fun _ _ h => h) (by rw [hsz]; kernel_rfl) (by kernel_rfl) rfl fun vals w1 ρ hG hF hρ hcst hfun => ?_
      have e77 : ρ (.tmp 77) = .int .i64 N := ((hρ 77).trans (slotJ [6] (by rw [hsz]; decide) (by kernel_rfl))).trans (hF 6 (by decide))
      have kw0 : IntKind.i64.wrap ((J : Int)) = (J : Int) := wrapIn (by omega) (by omega)
      clear hρ hF hfun sl0 sl1 sl5 sl11 sl12 fin
      exact opv_val (by go_simp <;> rfl) ⟨gw_self _, rfl⟩
    · refine owes_vt 1 true (Go.Op.indexAddr 40 (Go.Operand.tmp 75) (Go.Operand.tmp 78)) 0 [4, 7] (by kernel_rfl) (by kernel_rfl) (by kernel_rfl) (fun _ _ h => h) (by rw [hsz]; kernel_rfl) (by kernel_rfl) rfl fun vals w1 ρ hG hF hρ hcst hfun => ?_
      have e75 : ρ (.tmp 75) = .slice AL N cL := ((hρ 75).trans (slotJ [4, 7] (by rw [hsz]; decide) (by kernel_rfl))).trans (hF 4 (by decide))
      have e78 : ρ (.tmp 78) = .int .i64 J := ((hρ 78).trans (slotJ [4, 7] (by rw [hsz]; decide) (by kernel_rfl))).trans (hF 7 (by decide))
      rw [hAL] at e75
      clear hρ hF hcst hfun sl0 sl1 sl5 sl11 sl12 fin
      exact opv_val (by go_simp <;> rfl) ⟨gw_self _, rfl⟩
    · refine owes_vt 1 true (Go.Op.load 30 (Go.Operand.tmp 79)) 30 [8] (by kernel_rfl) (by kernel_rfl) (by kernel_rfl) (fun _ _ h => h) (by rw [hsz]; kernel_rfl) (by kernel_rfl) rfl fun vals w1 ρ hG hF hρ hcst hfun => ?_
      have e79 : ρ (.tmp 79) = .pointer (some (ad.add J)) := ((hρ 79).trans (slotJ [8] (by rw [hsz]; decide) (by kernel_rfl))).trans (hF 8 (by decide))
      have k := (hG.cell (p := ad.add J) (by rw [add_block]; exact hab)).trans c3
      clear hρ hF hcst hfun sl0 sl1 sl5 sl11 sl12 fin
      exact opv_val (by go_simp <;> rfl) ⟨gw_self _, rfl⟩
    · refine owes_vt 1 true (Go.Op.convert 30 9 (Go.Operand.tmp 80)) 9 [9] (by kernel_rfl) (by kernel_rfl) (by kernel_rfl) (fun _ _ h => h) (by rw [hsz]; kernel_rfl) (by kernel_rfl) rfl fun vals w1 ρ hG hF hρ hcst hfun => ?_
      have e80 : ρ (.tmp 80) = .slice Aj nb cj := ((hρ 80).trans (slotJ [9] (by rw [hsz]; decide) (by kernel_rfl))).trans (hF 9 (by decide))
      have k := str_conv bs Aj cj _ w1 (hrj.below hG)
      rw [← hn.out, ← hs.out] at k
      clear hρ hF hcst hfun sl0 sl1 sl5 sl11 sl12 fin
      exact opv_val (by go_simp <;> rfl) ⟨gw_self _, rfl⟩
    · refine owes_vt 1 true (Go.Op.binOp Go.BinOp.eql 9 (Go.Operand.tmp 74) (Go.Operand.tmp 81) 9) 4 [3, 10] (by kernel_rfl) (by kernel_rfl) (by kernel_rfl) (fun _ _ h => h) (by rw [hsz]; kernel_rfl) (by kernel_rfl) rfl fun vals w1 ρ hG hF hρ hcst hfun => ?_
      have e74 : ρ (.tmp 74) = .string str := ((hρ 74).trans (slotJ [3, 10] (by rw [hsz]; decide) (by kernel_rfl))).trans (hF 3 (by decide))
      have e81 : ρ (.tmp 81) = .string str := ((hρ 81).trans (slotJ [3, 10] (by rw [hsz]; decide) (by kernel_rfl))).trans (hF 10 (by decide))
      clear hρ hF hcst hfun sl0 sl1 sl5 sl11 sl12 fin
      exact opv_val (by go_simp <;> rfl) ⟨gw_self _, rfl⟩
    · refine owes_v (Go.Op.pick (Go.Operand.tmp 72) (Go.Operand.tmp 82) (Go.Operand.const (Go.Value.bool false))) 4 [1, 11] (by kernel_rfl) (by kernel_rfl) (by kernel_rfl) rfl fun vals w1 ρ hG hF hρ hcst hfun => ?_
      have e72 : ρ (.tmp 72) = .bool true := ((hρ 72).trans (slotJ [1, 11] (by rw [hsz]; decide) (by kernel_rfl))).trans (hF 1 (by decide))
      have e82 : ρ (.tmp 82) = .bool true := ((hρ 82).trans (slotJ [1, 11] (by rw [hsz]; decide) (by kernel_rfl))).trans (hF 11 (by decide))
      clear hρ hF hfun sl0 sl1 sl5 sl11 sl12 fin
      exact opv_val (by go_simp <;> rfl) ⟨gw_self _, rfl⟩
    · exact owes_mvj 12 83 (by kernel_rfl) (by kernel_rfl) (by kernel_rfl) (by kernel_rfl) (by rw [hsz]; decide) (fun v w h => h)
    · refine owes_vt 13 true (Go.Op.move (Go.Operand.tmp 5)) 24 [] (by kernel_rfl) (by kernel_rfl) (by kernel_rfl) (fun _ _ h => h) (by rw [hsz]; kernel_rfl) (by kernel_rfl) rfl fun vals w1 ρ hG hF hρ hcst hfun => ?_
      have e5 : ρ (.tmp 5) = .pointer (some ⟨g, 0, none⟩) := ((hρ 5).trans (slotO [] (by kernel_rfl))).trans sl5
      clear hρ hF hcst hfun sl0 sl1 sl5 sl11 sl12 fin
      exact opv_val (by go_simp <;> rfl) ⟨gw_self _, rfl⟩
    · refine owes_vt 13 true (Go.Op.call { callee := Go.Callee.value (Go.Operand.func 14), args := #[Go.Operand.tmp 85], argTypes := #[24] }) 41 [14] (by kernel_rfl) (by kernel_rfl) (by kernel_rfl) (fun _ _ h => h) (by rw [hsz]; kernel_rfl) (by kernel_rfl) rfl fun vals w1 ρ hG hF hρ hcst hfun => ?_
      have e85 : ρ (.tmp 85) = .pointer (some ⟨g, 0, none⟩) := ((hρ 85).trans (slotJ [14] (by rw [hsz]; decide) (by kernel_rfl))).trans (hF 14 (by decide))
      clear hρ hF hcst sl0 sl1 sl5 sl11 sl12 fin
      exact opv_enter (by go_simp <;> rfl) (dl_of (dirty_c (hd.below hG) n hdl.out.1 hdl.out.2))
    · refine owes_vt 13 true (Go.Op.call { callee := Go.Callee.builtin Go.Builtin.len, args := #[Go.Operand.tmp 86], argTypes := #[41] }) 3 [15] (by kernel_rfl) (by kernel_rfl) (by kernel_rfl) (fun _ _ h => h) (by rw [hsz]; kernel_rfl) (by kernel_rfl) rfl fun vals w1 ρ hG hF hρ hcst hfun => ?_
      have f86 : (DlV n) (vals 15) w1 := hF 15 (by decide)
      have e86 : ρ (.tmp 86) = vals 15 := (hρ 86).trans (slotJ [15] (by rw [hsz]; decide) (by kernel_rfl))
      obtain ⟨A', c', hv⟩ := f86
      rw [hv] at e86
      clear hv
      clear hρ hF hcst hfun sl0 sl1 sl5 sl11 sl12 fin
      exact opv_val (by go_simp <;> rfl) ⟨gw_self _, rfl⟩
    · refine owes_vt 13 true (Go.Op.binOp Go.BinOp.eql 3 (Go.Operand.tmp 87) (Go.Operand.const (Go.Value.int Go.IntKind.i64 0)) 3) 4 [16] (by kernel_rfl) (by kernel_rfl) (by kernel_rfl) (fun _ _ h => h) (by rw [hsz]; kernel_rfl) (by kernel_rfl) rfl fun vals w1 ρ hG hF hρ hcst hfun => ?_
      have e87 : ρ (.tmp 87) = .int .i64 n := ((hρ 87).trans (slotJ [16] (by rw [hsz]; decide) (by kernel_rfl))).trans (hF 16 (by decide))
      clear hρ hF hfun sl0 sl1 sl5 sl11 sl12 fin
      exact opv_val (by go_simp <;> rfl) ⟨gw_self _, rfl⟩
    · refine owes_vt 13 true (Go.Op.move (Go.Operand.tmp 1)) 4 [] (by kernel_rfl) (by kernel_rfl) (by kernel_rfl) (fun _ _ h => h) (by rw [hsz]; kernel_rfl) (by kernel_rfl) rfl fun vals w1 ρ hG hF hρ hcst hfun => ?_
      have e1 : ρ (.tmp 1) = .bool cl := ((hρ 1).trans (slotO [] (by kernel_rfl))).trans sl1
      clear hρ hF hcst hfun sl0 sl1 sl5 sl11 sl12 fin
      exact opv_val (by go_simp <;> rfl) ⟨gw_self _, rfl⟩
    · refine owes_vt 13 true (Go.Op.binOp Go.BinOp.eql 4 (Go.Operand.tmp 88) (Go.Operand.tmp 89) 4) 4 [17, 18] (by kernel_rfl) (by kernel_rfl) (by kernel_rfl) (fun _ _ h => h) (by rw [hsz]; kernel_rfl) (by kernel_rfl) rfl fun vals w1 ρ hG hF hρ hcst hfun => ?_
      have e88 : ρ (.tmp 88) = .bool cl := ((hρ 88).trans (slotJ [17, 18] (by rw [hsz]; decide) (by kernel_rfl))).trans (hF 17 (by decide))
      have e89 : ρ (.tmp 89) = .bool cl := ((hρ 89).trans (slotJ [17, 18] (by rw [hsz]; decide) (by kernel_rfl))).trans (hF 18 (by decide))
      clear hρ hF hcst hfun sl0 sl1 sl5 sl11 sl12 fin
      exact opv_val (by go_simp <;> rfl) ⟨gw_self _, rfl⟩
    · refine owes_v (Go.Op.pick (Go.Operand.tmp 84) (Go.Operand.tmp 90) (Go.Operand.const (Go.Value.bool false))) 4 [13, 19] (by kernel_rfl) (by kernel_rfl) (by kernel_rfl) rfl fun vals w1 ρ hG hF hρ hcst hfun => ?_
      have e84 : ρ (.tmp 84) = .bool true := ((hρ 84).trans (slotJ [13, 19] (by rw [hsz]; decide) (by kernel_rfl))).trans (hF 13 (by decide))
      have e90 : ρ (.tmp 90) = .bool true := ((hρ 90).trans (slotJ [13, 19] (by rw [hsz]; decide) (by kernel_rfl))).trans (hF 19 (by decide))
      clear hρ hF hfun sl0 sl1 sl5 sl11 sl12 fin
      exact opv_val (by go_simp <;> rfl) ⟨gw_self _, rfl⟩
    · exact owes_mvj 20 91 (by kernel_rfl) (by kernel_rfl) (by kernel_rfl) (by kernel_rfl) (by rw [hsz]; decide) (fun v w h => h)
    · refine owes_vt 21 true (Go.Op.move (Go.Operand.tmp 5)) 24 [] (by kernel_rfl) (by kernel_rfl) (by kernel_rfl) (fun _ _ h => h) (by rw [hsz]; kernel_rfl) (by kernel_rfl) rfl fun vals w1 ρ hG hF hρ hcst hfun => ?_
      have e5 : ρ (.tmp 5) = .pointer (some ⟨g, 0, none⟩) := ((hρ 5).trans (slotO [] (by kernel_rfl))).trans sl5
      clear hρ hF hcst hfun sl0 sl1 sl5 sl11 sl12 fin
      exact opv_val (by go_simp <;> rfl) ⟨gw_self _, rfl⟩
    · refine owes_vt 21 true (Go.Op.call { callee := Go.Callee.value (Go.Operand.func 10), args := #[Go.Operand.tmp 93], argTypes := #[24] }) 3 [22] (by kernel_rfl) (by kernel_rfl) (by kernel_rfl) (fun _ _ h => h) (by rw [hsz]; kernel_rfl) (by kernel_rfl) rfl fun vals w1 ρ hG hF hρ hcst hfun => ?_
      have e93 : ρ (.tmp 93) = .pointer (some ⟨g, 0, none⟩) := ((hρ 93).trans (slotJ [22] (by rw [hsz]; decide) (by kernel_rfl))).trans (hF 22 (by decide))
      clear hρ hF hcst sl0 sl1 sl5 sl11 sl12 fin
      exact opv_enter (by go_simp <;> rfl) ((ht ▸ iv_of (len_c (hd.below hG))))
    · refine owes_vt 21 true (Go.Op.binOp Go.BinOp.eql 3 (Go.Operand.tmp 94) (Go.Operand.const (Go.Value.int Go.IntKind.i64 1)) 3) 4 [23] (by kernel_rfl) (by kernel_rfl) (by kernel_rfl) (fun _ _ h => h) (by rw [hsz]; kernel_rfl) (by kernel_rfl) rfl fun vals w1 ρ hG hF hρ hcst hfun => ?_
      have e94 : ρ (.tmp 94) = .int .i64 1 := ((hρ 94).trans (slotJ [23] (by rw [hsz]; decide) (by kernel_rfl))).trans (hF 23 (by decide))
      clear hρ hF hfun sl0 sl1 sl5 sl11 sl12 fin
      exact opv_val (by go_simp <;> rfl) ⟨gw_self _, rfl⟩
    · refine owes_v (Go.Op.pick (Go.Operand.tmp 92) (Go.Operand.tmp 95) (Go.Operand.const (Go.Value.bool false))) 4 [21, 24] (by kernel_rfl) (by kernel_rfl) (by kernel_rfl) rfl fun vals w1 ρ hG hF hρ hcst hfun => ?_
      have e92 : ρ (.tmp 92) = .bool true := ((hρ 92).trans (slotJ [21, 24] (by rw [hsz]; decide) (by kernel_rfl))).trans (hF 21 (by decide))
      have e95 : ρ (.tmp 95) = .bool true := ((hρ 95).trans (slotJ [21, 24] (by rw [hsz]; decide) (by kernel_rfl))).trans (hF 24 (by decide))
      clear hρ hF hfun sl0 sl1 sl5 sl11 sl12 fin
      exact opv_val (by go_simp <;> rfl) ⟨gw_self _, rfl⟩
    · exact owes_mvj 25 96 (by kernel_rfl) (by kernel_rfl) (by kernel_rfl) (by kernel_rfl) (by rw [hsz]; decide) (fun v w h => h)
  · intro vals w1 hG hF
    exact fin vals w1 hG (hF 26 (by decide +kernel))
end Go.Proofs.Ythmaofbnhfgfaaa
