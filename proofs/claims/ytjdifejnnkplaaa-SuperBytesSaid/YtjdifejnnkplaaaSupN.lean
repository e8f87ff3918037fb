/- What loamref6.Decode answers of any bytes. Conditions: lengths. -/
import Derived.Test.YtjdifejnnkplaaaSupM
import Derived.Test.YtjdifejnnkplaaaGeomS
import Derived.Test.YtjdifejnnkplaaaGeomA
import Derived.Laws.Rows
import Derived.Laws.Tables
namespace Go.Proofs.Ytjdifejnnkplaaa
set_option linter.unusedVariables false
set_option linter.unusedSimpArgs false
open Go.RowKit
set_option maxRecDepth 100000
set_option maxHeartbeats 2000000
theorem number_c (bs : List (BitVec 8)) (A : Option Addr) (c : Nat) (at_ n : Int) (w : World) (hr : Rd b8 w w.heap.size A bs) (hl : bs.length ≤ 2147483648) : Calls Try.prog 28 #[.slice A bs.length c, .int .i64 at_, .int .i64 n] w (RetP (.int .u64 (U64 (getB bs at_ n))) w) := by
  have HG := Lib.hid (rget_c bs A c at_ n w w.heap.size hr hl)
  obtain ⟨N, hN⟩ : ∃ N, N = bs.length := ⟨_, rfl⟩
  rw [← hN] at HG ⊢
  clear hr hl hN
  go_enter Try.func28, Try.ntmps28
  go_wp2_with fail
  refine Calls.mono HG.out.go ?_
  rintro e w1 ⟨rfl, mm, rfl⟩
  go_wp2_with fail
  go_ret
  exact ⟨rfl, (by repeat (first | with_reducible assumption | with_reducible exact Below.refl _ _ | with_reducible apply bdN | with_reducible apply Below.drew | with_reducible refine Below.alloc ?_ (by simp) _ | with_reducible refine Below.setCell ?_ (by simp) _))⟩
theorem number_n (bs : List (BitVec 8)) (A : Option Addr) (c N : Nat) (hN : N = bs.length) (at_ : Int) (x : Nat) (hx : U64 (getB bs at_ 4) = (x : Int)) (w : World) (hr : Rd b8 w w.heap.size A bs) (hl : bs.length ≤ 2147483648) : Calls Try.prog 28 #[.slice A N c, .int .i64 at_, .int .i64 4] w (RetP (.int .u64 (x : Int)) w) := by
  subst hN
  rw [← hx]
  exact number_c bs A c at_ 4 w hr hl
theorem number_8 (bs : List (BitVec 8)) (A : Option Addr) (c N : Nat) (hN : N = bs.length) (at_ : Int) (x : BitVec 64) (hx : getB bs at_ 8 = x) (w : World) (hr : Rd b8 w w.heap.size A bs) (hl : bs.length ≤ 2147483648) : Calls Try.prog 28 #[.slice A N c, .int .i64 at_, .int .i64 8] w (RetP (.int .u64 (U64 x)) w) := by
  subst hN
  rw [← hx]
  exact number_c bs A c at_ 8 w hr hl
theorem row_below {w : World} {B g : Nat} (hB : B ≤ g) (cs : Array Value) : Below B w (w.setRow g cs) :=
  ⟨rfl, rfl, rfl, by simp, fun k hk => setRow_other w g k cs (by omega)⟩
theorem wp_st6 {ops : Array Oper} {rest : List Oper} {o : Oper} {a : Act} {w : World} {Q : Exit → Act → World → Prop} (hg : o.guard = none) (x y : Operand) (ho : o.op = .store 37 x y) (g : Nat) (cs : Array Value) (hx : a.eval x = .pointer (some ⟨g, 0, none⟩)) (hy : a.eval y = .agg cs) (E : TypeId) (old : Array Value) (hb : Bk w g E old)
    (hs : cs.size = 7) (hold : old.size = 7) (h1 : cs.all (·.oneCell') = true)
    (h : ∀ w', Bk w' g E cs → (∀ B, B ≤ g → Below B w w') → (∀ k, k ≠ g → w'.heap[k]? = w.heap[k]?) → wpList Try.prog ops Q rest (a.put o.dst undef) w') : wpList Try.prog ops Q (o :: rest) a w :=
  wpList_store_row hg 37 x y ho g cs hx hy E old hb (by rw [hs]; kernel_rfl) (by rw [hs, hold]) h1
    (h _ (setRow_heap w g old cs E (0, 0) hb) (fun B hB => row_below hB cs) (fun k hk => setRow_other w g k cs hk))
theorem res6 {tmps : Array Value} {W : World} {g : Nat} {E : TypeId} {cs : Array Value} {y : Value} (hs : cs.size = 7) (hb : Bk W g E cs) (h2 : tmps.getD 2 undef = .pointer (some ⟨g, 0, none⟩)) (h3 : tmps.getD 3 undef = y) :
    (results Try.f15 tmps).run Try.prog W = .ok (.tuple #[.agg cs, y]) W := by
  have hl := run_loadVar_row (P := Try.prog) W g E 37 cs (0, 0) _ hb Try.underlying37 rfl (by rw [hs]; kernel_rfl)
  have h2' : tmps[2]?.getD undef = .pointer (some ⟨g, 0, none⟩) := by simpa using h2
  have h3' : tmps[3]?.getD undef = y := by simpa using h3
  simp [results, Try.results15, h2', h3', asAddr, hl]
def zer6 : Array Value := #[.int .u64 0, .int .i64 0, .int .i64 0, .int .i64 0, .int .i64 0, .int .i64 0, .int .u64 0]
theorem rdec6_short (E : List (BitVec 8)) (A : Option Addr) (c : Nat) (w : World) (h : E.length < 64) : Calls Try.prog 15 #[.slice A E.length c] w (RetP (.tuple #[blkV 0#64 0 0 0 0 0 0#64, .int .i64 2]) w) := by
  have hz : U64 0#64 = 0 := by decide +kernel
  unfold blkV
  rw [hz]
  clear hz
  obtain ⟨N, hN⟩ : ∃ N, N = E.length := ⟨_, rfl⟩
  rw [← hN] at h ⊢
  have q1 : decide ((N : Int) < 64) = true := by simp; omega
  have HB := Lib.hid (Bk.new w 37 zer6)
  have HW := Lib.hid (Gw.alloc w (.cells zer6 37))
  unfold zer6 at HB HW
  clear hN h
  go_enter Try.func15, Try.ntmps15
  go_wp2_with fail
  exact bodyPost_ret (v := .tuple #[.agg #[.int .u64 0, .int .i64 0, .int .i64 0, .int .i64 0, .int .i64 0, .int .i64 0, .int .u64 0], .int .i64 2]) (res6 rfl HB.out rfl rfl) rfl ⟨rfl, HW.out⟩
/-- A new block. -/
def PZ (B : Nat) (E : TypeId) (cs : Array Value) (v : Value) (w : World) : Prop := ∃ g, B ≤ g ∧ v = .pointer (some ⟨g, 0, none⟩) ∧ Bk w g E cs
theorem PZ.mono {B : Nat} {E : TypeId} {cs : Array Value} {v : Value} {a b : World} (h : PZ B E cs v a) (g : Below a.heap.size a b) : PZ B E cs v b := by
  obtain ⟨k, h1, h2, h3⟩ := h
  exact ⟨k, h1, h2, h3.below g h3.lt⟩
theorem rd6_reg (Q : Exit → Act → World → Prop) (a0 : Act) (w : World) (g : Nat) (E : List (BitVec 8)) (A : Option Addr) (c N s l n sp wd : Nat) (ep lg : BitVec 64) (hr : Rd b8 w w.heap.size A E) (hk : Bk w g 35 #[.int .i64 s, .int .i64 l, .int .i64 n]) (HNUM : Hid (∀ W, Rd b8 W W.heap.size A E → Calls Try.prog 28 #[.slice A N c, .int .i64 8, .int .i64 8] W (RetP (.int .u64 (U64 ep)) W) ∧ Calls Try.prog 28 #[.slice A N c, .int .i64 28, .int .i64 4] W (RetP (.int .u64 (sp : Int)) W) ∧ Calls Try.prog 28 #[.slice A N c, .int .i64 32, .int .i64 4] W (RetP (.int .u64 (wd : Int)) W) ∧ Calls Try.prog 28 #[.slice A N c, .int .i64 36, .int .i64 8] W (RetP (.int .u64 (U64 lg)) W))) (h1 : sp ≤ 4294967296) (h2 : wd ≤ 4294967296) (hsz : a0.tmps.size = 50) (sl0 : a0.tmps.getD 0 undef = .slice A N c) (sl4 : a0.tmps.getD 4 undef = .pointer (some ⟨g, 0, none⟩))
    (fin : ∀ (vals : Nat → Value) (w1 : World), Below w.heap.size w w1 → (PZ w.heap.size 37 #[.int .u64 0, .int .i64 0, .int .i64 0, .int .i64 0, .int .i64 0, .int .i64 0, .int .u64 0]) (vals 12) w1 → (IsV (.agg #[.int .u64 (U64 ep), .int .i64 s, .int .i64 l, .int .i64 n, .int .i64 sp, .int .i64 wd, .int .u64 (U64 lg)])) (vals 11) w1 → wpList Try.prog #[{ dst := none, op := Go.Op.store 37 (Go.Operand.tmp 5) (Go.Operand.tmp 33), type := 0, pos := "", after := #[], guard := none }] Q [{ dst := none, op := Go.Op.store 37 (Go.Operand.tmp 5) (Go.Operand.tmp 33), type := 0, pos := "", after := #[], guard := none }] (putD vals [22, 23, 24, 25, 26, 27, 28, 29, 30, 31, 32, 33, 5] 0 a0) w1) :
    (Code.region 4 (regIn Try.f15 4) true).wp Try.prog Q a0 w := by
  refine region_by_tail (m := 13) (G := fun w w1 => Below w.heap.size w w1) [IsV (.slice A N c),
    IsV (.int .u64 (U64 ep)),
    IsV (.agg #[.int .i64 s, .int .i64 l, .int .i64 n]),
    IsV (.slice A N c),
    IsV (.int .u64 (sp : Int)),
    IsV (.int .i64 (sp : Int)),
    IsV (.slice A N c),
    IsV (.int .u64 (wd : Int)),
    IsV (.int .i64 (wd : Int)),
    IsV (.slice A N c),
    IsV (.int .u64 (U64 lg)),
    IsV (.agg #[.int .u64 (U64 ep), .int .i64 s, .int .i64 l, .int .i64 n, .int .i64 sp, .int .i64 wd, .int .u64 (U64 lg)]),
    PZ w.heap.size 37 #[.int .u64 0, .int .i64 0, .int .i64 0, .int .i64 0, .int .i64 0, .int .i64 0, .int .u64 0]]
    [22, 23, 24, 25, 26, 27, 28, 29, 30, 31, 32, 33, 5] (by kernel_rfl) (Gw.drew _) Gw.trans (by rw [hsz]; kernel_rfl) (by kernel_rfl) ?_ ?_ ?_
  · intro f hf
    simp only [List.mem_cons, List.not_mem_nil, or_false] at hf
    rcases hf with rfl | rfl | rfl | rfl | rfl | rfl | rfl | rfl | rfl | rfl | rfl | rfl | rfl <;> intro v a b h g <;> first | exact IsV.mono h | exact PZ.mono h g
  · refine ⟨?_, ?_, ?_, ?_, ?_, ?_, ?_, ?_, ?_, ?_, ?_, ?_, ?_, trivial⟩
    · exact owes_mv 0 (by kernel_rfl) (by kernel_rfl) (by kernel_rfl) sl0 (fun _ => rfl)
    · refine owes_v (Go.Op.call { callee := Go.Callee.value (Go.Operand.func 28), args := #[Go.Operand.tmp 22, Go.Operand.const (Go.Value.int Go.IntKind.i64 8), Go.Operand.const (Go.Value.int Go.IntKind.i64 8)], argTypes := #[29, 3, 3] }) 22 [0] (by kernel_rfl) (by kernel_rfl) (by kernel_rfl) rfl fun vals w1 ρ hG hF hρ hcst hfun => ?_
      have e22 : ρ (.tmp 22) = .slice A N c := ((hρ 22).trans (slotJ [0] (by rw [hsz]; decide) (by kernel_rfl))).trans (hF 0 (by decide))
      clear hρ hF sl0 sl4 fin
      exact opv_enter (by go_simp <;> rfl) (of_ret (HNUM.out w1 ((hr.below hG).more hG.size)).1)
    · refine owes_v (Go.Op.load 35 (Go.Operand.tmp 4)) 35 [] (by kernel_rfl) (by kernel_rfl) (by kernel_rfl) rfl fun vals w1 ρ hG hF hρ hcst hfun => ?_
      have e4 : ρ (.tmp 4) = .pointer (some ⟨g, 0, none⟩) := ((hρ 4).trans (slotO [] (by kernel_rfl))).trans sl4
      obtain ⟨k1, k2, k3⟩ := (hk.below hG hk.lt).three
      clear hρ hF hcst hfun sl0 sl4 fin
      exact opv_val (by go_simp <;> rfl) ⟨gw_self _, rfl⟩
    · exact owes_mv 0 (by kernel_rfl) (by kernel_rfl) (by kernel_rfl) sl0 (fun _ => rfl)
    · refine owes_v (Go.Op.call { callee := Go.Callee.value (Go.Operand.func 28), args := #[Go.Operand.tmp 25, Go.Operand.const (Go.Value.int Go.IntKind.i64 28), Go.Operand.const (Go.Value.int Go.IntKind.i64 4)], argTypes := #[29, 3, 3] }) 22 [3] (by kernel_rfl) (by kernel_rfl) (by kernel_rfl) rfl fun vals w1 ρ hG hF hρ hcst hfun => ?_
      have e25 : ρ (.tmp 25) = .slice A N c := ((hρ 25).trans (slotJ [3] (by rw [hsz]; decide) (by kernel_rfl))).trans (hF 3 (by decide))
      clear hρ hF sl0 sl4 fin
      exact opv_enter (by go_simp <;> rfl) (of_ret (HNUM.out w1 ((hr.below hG).more hG.size)).2.1)
    · refine owes_v (Go.Op.convert 22 3 (Go.Operand.tmp 26)) 3 [4] (by kernel_rfl) (by kernel_rfl) (by kernel_rfl) rfl fun vals w1 ρ hG hF hρ hcst hfun => ?_
      have e26 : ρ (.tmp 26) = .int .u64 (sp : Int) := ((hρ 26).trans (slotJ [4] (by rw [hsz]; decide) (by kernel_rfl))).trans (hF 4 (by decide))
      have kw0 : IntKind.i64.wrap ((sp : Int)) = (sp : Int) := wrapIn (by omega) (by omega)
      clear hρ hF hcst hfun sl0 sl4 fin
      exact opv_val (by go_simp <;> rfl) ⟨gw_self _, rfl⟩
    · exact owes_mv 0 (by kernel_rfl) (by kernel_rfl) (by kernel_rfl) sl0 (fun _ => rfl)
    · refine owes_v (Go.Op.call { callee := Go.Callee.value (Go.Operand.func 28), args := #[Go.Operand.tmp 28, Go.Operand.const (Go.Value.int Go.IntKind.i64 32), Go.Operand.const (Go.Value.int Go.IntKind.i64 4)], argTypes := #[29, 3, 3] }) 22 [6] (by kernel_rfl) (by kernel_rfl) (by kernel_rfl) rfl fun vals w1 ρ hG hF hρ hcst hfun => ?_
      have e28 : ρ (.tmp 28) = .slice A N c := ((hρ 28).trans (slotJ [6] (by rw [hsz]; decide) (by kernel_rfl))).trans (hF 6 (by decide))
      clear hρ hF sl0 sl4 fin
      exact opv_enter (by go_simp <;> rfl) (of_ret (HNUM.out w1 ((hr.below hG).more hG.size)).2.2.1)
    · refine owes_v (Go.Op.convert 22 3 (Go.Operand.tmp 29)) 3 [7] (by kernel_rfl) (by kernel_rfl) (by kernel_rfl) rfl fun vals w1 ρ hG hF hρ hcst hfun => ?_
      have e29 : ρ (.tmp 29) = .int .u64 (wd : Int) := ((hρ 29).trans (slotJ [7] (by rw [hsz]; decide) (by kernel_rfl))).trans (hF 7 (by decide))
      have kw0 : IntKind.i64.wrap ((wd : Int)) = (wd : Int) := wrapIn (by omega) (by omega)
      clear hρ hF hcst hfun sl0 sl4 fin
      exact opv_val (by go_simp <;> rfl) ⟨gw_self _, rfl⟩
    · exact owes_mv 0 (by kernel_rfl) (by kernel_rfl) (by kernel_rfl) sl0 (fun _ => rfl)
    · refine owes_v (Go.Op.call { callee := Go.Callee.value (Go.Operand.func 28), args := #[Go.Operand.tmp 31, Go.Operand.const (Go.Value.int Go.IntKind.i64 36), Go.Operand.const (Go.Value.int Go.IntKind.i64 8)], argTypes := #[29, 3, 3] }) 22 [9] (by kernel_rfl) (by kernel_rfl) (by kernel_rfl) rfl fun vals w1 ρ hG hF hρ hcst hfun => ?_
      have e31 : ρ (.tmp 31) = .slice A N c := ((hρ 31).trans (slotJ [9] (by rw [hsz]; decide) (by kernel_rfl))).trans (hF 9 (by decide))
      clear hρ hF sl0 sl4 fin
      exact opv_enter (by go_simp <;> rfl) (of_ret (HNUM.out w1 ((hr.below hG).more hG.size)).2.2.2)
    · refine owes_v (Go.Op.build 37 #[(0, Go.Operand.tmp 23), (1, Go.Operand.tmp 24), (2, Go.Operand.tmp 27), (3, Go.Operand.tmp 30), (4, Go.Operand.tmp 32)]) 37 [1, 2, 5, 8, 10] (by kernel_rfl) (by kernel_rfl) (by kernel_rfl) rfl fun vals w1 ρ hG hF hρ hcst hfun => ?_
      have e23 : ρ (.tmp 23) = .int .u64 (U64 ep) := ((hρ 23).trans (slotJ [1, 2, 5, 8, 10] (by rw [hsz]; decide) (by kernel_rfl))).trans (hF 1 (by decide))
      have e24 : ρ (.tmp 24) = .agg #[.int .i64 s, .int .i64 l, .int .i64 n] := ((hρ 24).trans (slotJ [1, 2, 5, 8, 10] (by rw [hsz]; decide) (by kernel_rfl))).trans (hF 2 (by decide))
      have e27 : ρ (.tmp 27) = .int .i64 (sp : Int) := ((hρ 27).trans (slotJ [1, 2, 5, 8, 10] (by rw [hsz]; decide) (by kernel_rfl))).trans (hF 5 (by decide))
      have e30 : ρ (.tmp 30) = .int .i64 (wd : Int) := ((hρ 30).trans (slotJ [1, 2, 5, 8, 10] (by rw [hsz]; decide) (by kernel_rfl))).trans (hF 8 (by decide))
      have e32 : ρ (.tmp 32) = .int .u64 (U64 lg) := ((hρ 32).trans (slotJ [1, 2, 5, 8, 10] (by rw [hsz]; decide) (by kernel_rfl))).trans (hF 10 (by decide))
      clear hρ hF hcst hfun sl0 sl4 fin
      exact opv_val (by go_simp <;> rfl) ⟨gw_self _, rfl⟩
    · refine owes_v (Go.Op.alloc 37) 0 [] (by kernel_rfl) (by kernel_rfl) (by kernel_rfl) rfl fun vals w1 ρ hG hF hρ hcst hfun => ?_
      clear hρ hF hcst hfun sl0 sl4 fin
      exact opv_val (by go_simp <;> rfl) ⟨Gw.alloc _ _, ⟨_, hG.size, rfl, Bk.new w1 _ _⟩⟩
  · intro vals w1 hG hF
    exact last_list (by kernel_rfl) (by kernel_rfl) (by kernel_rfl) (fin vals w1 hG (hF 12 (by decide +kernel)) (hF 11 (by decide +kernel)))
end Go.Proofs.Ytjdifejnnkplaaa
