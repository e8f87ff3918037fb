/- What geom.around and geom.Owner answer. Conditions: small numbers. -/
import Derived.Test.YtgdgajieekkmdaaGeomC
namespace Go.Proofs.Ytgdgajieekkmdaa
set_option linter.unusedVariables false
set_option linter.unusedSimpArgs false
open Go.RowKit
def aroundG (x : Int) : List (Int × Int) → Int × Int
  | [] => (0, 0)
  | p :: ps => if p.1 ≤ x ∧ x < p.1 + p.2 then p else aroundG x ps
/-- Places in a row, from cell 0 of block g on. -/
def PlRow (w : World) (g : Nat) (ps : List (Int × Int)) : Prop := g < w.heap.size ∧ ∀ j (h : j < ps.length), w.cell? ⟨g, j * 2, none⟩ = some (.int .i64 ps[j].1) ∧ w.cell? ⟨g, j * 2 + 1, none⟩ = some (.int .i64 ps[j].2)
theorem PlRow.below {w w' : World} {g : Nat} {ps : List (Int × Int)} (h : PlRow w g ps) (hb : Below w.heap.size w w') : PlRow w' g ps :=
  ⟨Nat.lt_of_lt_of_le h.1 hb.size, fun j hj => ⟨(hb.cell (p := ⟨g, j * 2, none⟩) h.1).trans (h.2 j hj).1, (hb.cell (p := ⟨g, j * 2 + 1, none⟩) h.1).trans (h.2 j hj).2⟩⟩
set_option maxHeartbeats 400000
theorem around_c (x : Int) (ps : List (Int × Int)) (g : Nat) (w : World) (hk : PlRow w g ps) (hl : ps.length ≤ 100) (hbd : ∀ p ∈ ps, 0 ≤ p.1 ∧ p.1 ≤ 100000 ∧ 0 ≤ p.2 ∧ p.2 ≤ 100000) :
    Calls Try.prog 62 #[.int .i64 x, .slice (some ⟨g, 0, none⟩) ps.length ps.length] w (RetP (plV (aroundG x ps)) w) := by
  have HB := Lib.hid hbd
  clear hbd
  have hB0 := Gw.alloc w (.cells #[.int .i64 0, .int .i64 0] 46)
  have hr0 := Bk.new w 46 #[.int .i64 0, .int .i64 0]
  obtain ⟨r, hr⟩ : ∃ r, r = w.heap.size := ⟨_, rfl⟩
  rw [← hr] at hr0
  have HR := Lib.hid hr
  clear hr
  go_enter Try.func62, Try.ntmps62
  go_wp2
  rw [← HR.out]
  go_loopw [9] (fun i wr => ∃ k : Nat, k ≤ ps.length ∧ i = .int .i64 k ∧ Hid (aroundG x (ps.drop k) = aroundG x ps) ∧ Bk wr r 46 #[.int .i64 0, .int .i64 0] ∧ Below w.heap.size w wr) (fun i _ => ps.length - (intOf i).toNat)
  case atStart => exact ⟨0, by omega, rfl, Lib.hid rfl, hr0, hB0⟩
  case round =>
    obtain ⟨k, hkk, rfl, ha, hb, hB⟩ := hrel
    have hj := hb.free 0
    have hj1 := hb.free 1
    obtain ⟨r1, r2⟩ := hb.two
    have hrl := hb.lt
    by_cases hlt : k < ps.length
    · obtain ⟨c1, c2⟩ := (hk.below hB).2 k hlt
      obtain ⟨b1, b2, b3, b4⟩ := HB.out ps[k] (List.getElem_mem _)
      have hgl := (hk.below hB).1
      have hd : ps.drop k = ps[k] :: ps.drop (k + 1) := List.drop_eq_getElem_cons hlt
      obtain ⟨p, hp⟩ : ∃ p, p = ps[k] := ⟨_, rfl⟩
      rw [← hp] at c1 c2 b1 b2 b3 b4 hd
      obtain ⟨a, b⟩ := p
      simp only at c1 c2 b1 b2 b3 b4
      have HD := Lib.hid hd
      clear hd hp
      have p1 : (0 : Int) ≤ (k : Int) := by omega
      have p2 : (k : Int) < (ps.length : Int) := by omega
      by_cases hin : a ≤ x ∧ x < a + b
      · have hv : aroundG x ps = (a, b) := by rw [← ha.out, HD.out]; unfold aroundG; rw [if_pos hin]
        rw [hv]
        obtain ⟨i1, i2⟩ := hin
        have t1 : decide (a ≤ x) = true := by simp; omega
        have t2 : decide (x < a + b) = true := by simp; omega
        unfold plV
        clear hv
        go_wp2_with fail
        have hrb : w.heap.size ≤ r := by rw [HR.out]; exact Nat.le_refl _
        have hne : r < wr.heap.size := hrl
        exact bodyPost_ret (v := .agg #[.int .i64 a, .int .i64 b]) (by simp [results, Try.results62, go_sem, r1, r2, hrl]) rfl ⟨rfl, ((hB.setCell (p := ⟨r, 0, none⟩) hrb _).setCell (p := ⟨r, 1, none⟩) hrb _).alloc (by simpa using hB.size) _⟩
      · have hv : Hid (aroundG x (ps.drop (k + 1)) = aroundG x ps) := Lib.hid (by rw [← ha.out, HD.out]; show _ = if _ then _ else _; rw [if_neg hin])
        have hb' := hb.alloc (.cells #[.int .i64 a, .int .i64 b] 46)
        have hB' := hB.alloc hB.size (.cells #[.int .i64 a, .int .i64 b] 46)
        rcases Int.lt_or_le x a with hxa | hxa
        · have t1 : decide (a ≤ x) = false := by simp; omega
          clear hin
          go_wp2_with fail
          go_roundw
          case rel => exact ⟨k + 1, by omega, by go_num, hv, hb', hB'⟩
          case measure => (first | (simp [intOf]; done) | (simp [intOf]; omega))
        · have t1 : decide (a ≤ x) = true := by simp; omega
          have t2 : decide (x < a + b) = false := by simp; omega
          clear hin
          go_wp2_with fail
          go_roundw
          case rel => exact ⟨k + 1, by omega, by go_num, hv, hb', hB'⟩
          case measure => (first | (simp [intOf]; done) | (simp [intOf]; omega))
    · have hkk : k = ps.length := by omega
      have hv : aroundG x ps = (0, 0) := by rw [← ha.out, hkk, List.drop_length]; rfl
      have HV := Lib.hid hv
      clear hv hkk
      have hrb : w.heap.size ≤ r := by rw [HR.out]; exact Nat.le_refl _
      go_wp2_with fail
      exact bodyPost_ret (v := .agg #[.int .i64 0, .int .i64 0]) (by simp [results, Try.results62, go_sem, r1, r2, hrl]) rfl ⟨by rw [HV.out]; rfl, (hB.setCell (p := ⟨r, 0, none⟩) hrb _).setCell (p := ⟨r, 1, none⟩) hrb _⟩
def PlSl (ps : List (Int × Int)) (v : Value) (w : World) : Prop := ∃ g, v = .slice (some ⟨g, 0, none⟩) ps.length ps.length ∧ PlRow w g ps
theorem PlSl.mono {ps : List (Int × Int)} {v : Value} {a b : World} (h : PlSl ps v a) (g : Below a.heap.size a b) : PlSl ps v b := by
  obtain ⟨k, rfl, hp⟩ := h
  exact ⟨k, rfl, hp.below g⟩
theorem plrow5 (w : World) (E : TypeId) (a0 b0 a1 b1 a2 b2 a3 b3 a4 b4 : Int) : PlSl [(a0, b0), (a1, b1), (a2, b2), (a3, b3), (a4, b4)] (.slice (some ⟨w.heap.size, 0, none⟩) 5 5)
    (w.alloc (.cells #[.int .i64 a0, .int .i64 b0, .int .i64 a1, .int .i64 b1, .int .i64 a2, .int .i64 b2, .int .i64 a3, .int .i64 b3, .int .i64 a4, .int .i64 b4] E)) := by
  have hk := Bk.new w E #[.int .i64 a0, .int .i64 b0, .int .i64 a1, .int .i64 b1, .int .i64 a2, .int .i64 b2, .int .i64 a3, .int .i64 b3, .int .i64 a4, .int .i64 b4]
  refine ⟨_, rfl, hk.lt, fun j hj => ?_⟩
  have : j = 0 ∨ j = 1 ∨ j = 2 ∨ j = 3 ∨ j = 4 := by simp at hj; omega
  rcases this with rfl | rfl | rfl | rfl | rfl <;> exact ⟨hk.cell _, hk.cell _⟩
theorem around_s (x : Int) (ps : List (Int × Int)) (v : Value) (w : World) (h : PlSl ps v w) (hl : ps.length ≤ 100) (hbd : ∀ p ∈ ps, 0 ≤ p.1 ∧ p.1 ≤ 100000 ∧ 0 ≤ p.2 ∧ p.2 ≤ 100000) :
    Calls Try.prog 62 #[.int .i64 x, v] w (RetP (plV (aroundG x ps)) w) := by
  obtain ⟨g, rfl, hp⟩ := h
  exact around_c x ps g w hp hl hbd
def allG (s l n : Int) : List (Int × Int) := [(0, 1), (1, 1), (2, l), (2 + l, oneG s n), (2 + l + oneG s n, oneG s n)]
theorem owner_r (Q : Exit → Act → World → Prop) (a0 : Act) (w : World) (g h : Nat) (s l n x : Int) (hb : Bk w g 36 #[.int .i64 s, .int .i64 l, .int .i64 n]) (hp : Bk w h 47 #[.int .i64 0, .int .i64 1, .int .i64 1, .int .i64 1]) (hok : OkG s l n) (p : Int × Int) (har : Hid (aroundG x (allG s l n) = p)) (hsz : a0.tmps.size = 35) (sl1 : a0.tmps.getD 1 undef = .int .i64 x) (sl2 : a0.tmps.getD 2 undef = .pointer (some ⟨g, 0, none⟩)) (sl5 : a0.tmps.getD 5 undef = .pointer (some ⟨h, 0, none⟩))
    (fin : ∀ (vals : Nat → Value) (w1 : World), Below w.heap.size w w1 → (IsV (plV p)) (vals 12) w1 → Q .normal (putD vals [8, 9, 10, 11, 12, 13, 14, 15, 16, 17, 18, 19, 20] 0 a0) w1) :
    (Code.region 2 (regIn Try.f37 2) true).wp Try.prog Q a0 w := by
  refine region_by (G := fun w w1 => Below w.heap.size w w1) [IsV (.int .i64 x),
    IsV (.pointer (some ⟨h, 0, none⟩)),
    IsV (.agg #[.int .i64 0, .int .i64 1]),
    IsV (.pointer (some ⟨h, 2, none⟩)),
    IsV (.agg #[.int .i64 1, .int .i64 1]),
    IsV (gV s l n),
    IsV (.agg #[.int .i64 2, .int .i64 l]),
    IsV (gV s l n),
    IsV (.agg #[.int .i64 (2 + l), .int .i64 (oneG s n)]),
    IsV (gV s l n),
    IsV (.agg #[.int .i64 (2 + l + oneG s n), .int .i64 (oneG s n)]),
    PlSl (allG s l n),
    IsV (plV p)]
    [8, 9, 10, 11, 12, 13, 14, 15, 16, 17, 18, 19, 20] (by kernel_rfl) (Gw.drew _) Gw.trans (by rw [hsz]; kernel_rfl) (by kernel_rfl) ?_ ?_ ?_
  · intro f hf
    simp only [List.mem_cons, List.not_mem_nil, or_false] at hf
    rcases hf with rfl | rfl | rfl | rfl | rfl | rfl | rfl | rfl | rfl | rfl | rfl | rfl | rfl <;> intro v a b h g <;> first | exact IsV.mono h | exact PlSl.mono h g
  · refine ⟨?_, ?_, ?_, ?_, ?_, ?_, ?_, ?_, ?_, ?_, ?_, ?_, ?_, trivial⟩
    · exact owes_mv 1 (by kernel_rfl) (by kernel_rfl) (by kernel_rfl) sl1 (fun _ => rfl)
    · refine owes_v (Go.Op.indexAddr 47 (Go.Operand.tmp 5) (Go.Operand.const (Go.Value.int Go.IntKind.i64 0))) 0 [] (by kernel_rfl) (by kernel_rfl) (by kernel_rfl) rfl fun vals w1 ρ hG hF hρ hcst hfun => ?_
      have e5 : ρ (.tmp 5) = .pointer (some ⟨h, 0, none⟩) := ((hρ 5).trans (slotO [] (by kernel_rfl))).trans sl5
      clear hρ hF hfun sl1 sl2 sl5 fin
      exact opv_val (by go_simp <;> rfl) ⟨gw_self _, rfl⟩
    · refine owes_v (Go.Op.load 46 (Go.Operand.tmp 9)) 46 [1] (by kernel_rfl) (by kernel_rfl) (by kernel_rfl) rfl fun vals w1 ρ hG hF hρ hcst hfun => ?_
      have e9 : ρ (.tmp 9) = .pointer (some ⟨h, 0, none⟩) := ((hρ 9).trans (slotJ [1] (by rw [hsz]; decide) (by kernel_rfl))).trans (hF 1 (by decide))
      obtain ⟨k1, k2, k3, k4⟩ := (hp.below hG hp.lt).four
      clear hρ hF hcst hfun sl1 sl2 sl5 fin
      exact opv_val (by go_simp <;> rfl) ⟨gw_self _, rfl⟩
    · refine owes_v (Go.Op.indexAddr 47 (Go.Operand.tmp 5) (Go.Operand.const (Go.Value.int Go.IntKind.i64 1))) 0 [] (by kernel_rfl) (by kernel_rfl) (by kernel_rfl) rfl fun vals w1 ρ hG hF hρ hcst hfun => ?_
      have e5 : ρ (.tmp 5) = .pointer (some ⟨h, 0, none⟩) := ((hρ 5).trans (slotO [] (by kernel_rfl))).trans sl5
      clear hρ hF hfun sl1 sl2 sl5 fin
      exact opv_val (by go_simp <;> rfl) ⟨gw_self _, rfl⟩
    · refine owes_v (Go.Op.load 46 (Go.Operand.tmp 11)) 46 [3] (by kernel_rfl) (by kernel_rfl) (by kernel_rfl) rfl fun vals w1 ρ hG hF hρ hcst hfun => ?_
      have e11 : ρ (.tmp 11) = .pointer (some ⟨h, 2, none⟩) := ((hρ 11).trans (slotJ [3] (by rw [hsz]; decide) (by kernel_rfl))).trans (hF 3 (by decide))
      obtain ⟨k1, k2, k3, k4⟩ := (hp.below hG hp.lt).four
      clear hρ hF hcst hfun sl1 sl2 sl5 fin
      exact opv_val (by go_simp <;> rfl) ⟨gw_self _, rfl⟩
    · refine owes_v (Go.Op.load 36 (Go.Operand.tmp 2)) 36 [] (by kernel_rfl) (by kernel_rfl) (by kernel_rfl) rfl fun vals w1 ρ hG hF hρ hcst hfun => ?_
      have e2 : ρ (.tmp 2) = .pointer (some ⟨g, 0, none⟩) := ((hρ 2).trans (slotO [] (by kernel_rfl))).trans sl2
      obtain ⟨k1, k2, k3⟩ := (hb.below hG hb.lt).three
      clear hρ hF hcst hfun sl1 sl2 sl5 fin
      exact opv_val (by go_simp <;> rfl) ⟨gw_self _, rfl⟩
    · refine owes_v (Go.Op.call { callee := Go.Callee.value (Go.Operand.func 33), args := #[Go.Operand.tmp 13], argTypes := #[36] }) 46 [5] (by kernel_rfl) (by kernel_rfl) (by kernel_rfl) rfl fun vals w1 ρ hG hF hρ hcst hfun => ?_
      have e13 : ρ (.tmp 13) = gV s l n := ((hρ 13).trans (slotJ [5] (by rw [hsz]; decide) (by kernel_rfl))).trans (hF 5 (by decide))
      clear hρ hF hcst sl1 sl2 sl5 fin
      exact opv_enter (by go_simp <;> rfl) (of_ret (log_c s l n w1 hok))
    · refine owes_v (Go.Op.load 36 (Go.Operand.tmp 2)) 36 [] (by kernel_rfl) (by kernel_rfl) (by kernel_rfl) rfl fun vals w1 ρ hG hF hρ hcst hfun => ?_
      have e2 : ρ (.tmp 2) = .pointer (some ⟨g, 0, none⟩) := ((hρ 2).trans (slotO [] (by kernel_rfl))).trans sl2
      obtain ⟨k1, k2, k3⟩ := (hb.below hG hb.lt).three
      clear hρ hF hcst hfun sl1 sl2 sl5 fin
      exact opv_val (by go_simp <;> rfl) ⟨gw_self _, rfl⟩
    · refine owes_v (Go.Op.call { callee := Go.Callee.value (Go.Operand.func 35), args := #[Go.Operand.tmp 15, Go.Operand.const (Go.Value.int Go.IntKind.i64 0)], argTypes := #[36, 3] }) 46 [7] (by kernel_rfl) (by kernel_rfl) (by kernel_rfl) rfl fun vals w1 ρ hG hF hρ hcst hfun => ?_
      have e15 : ρ (.tmp 15) = gV s l n := ((hρ 15).trans (slotJ [7] (by rw [hsz]; decide) (by kernel_rfl))).trans (hF 7 (by decide))
      clear hρ hF sl1 sl2 sl5 fin
      exact opv_enter (by go_simp <;> rfl) (of_ret (space_c s l n 0 w1 hok))
    · refine owes_v (Go.Op.load 36 (Go.Operand.tmp 2)) 36 [] (by kernel_rfl) (by kernel_rfl) (by kernel_rfl) rfl fun vals w1 ρ hG hF hρ hcst hfun => ?_
      have e2 : ρ (.tmp 2) = .pointer (some ⟨g, 0, none⟩) := ((hρ 2).trans (slotO [] (by kernel_rfl))).trans sl2
      obtain ⟨k1, k2, k3⟩ := (hb.below hG hb.lt).three
      clear hρ hF hcst hfun sl1 sl2 sl5 fin
      exact opv_val (by go_simp <;> rfl) ⟨gw_self _, rfl⟩
    · refine owes_v (Go.Op.call { callee := Go.Callee.value (Go.Operand.func 35), args := #[Go.Operand.tmp 17, Go.Operand.const (Go.Value.int Go.IntKind.i64 1)], argTypes := #[36, 3] }) 46 [9] (by kernel_rfl) (by kernel_rfl) (by kernel_rfl) rfl fun vals w1 ρ hG hF hρ hcst hfun => ?_
      have e17 : ρ (.tmp 17) = gV s l n := ((hρ 17).trans (slotJ [9] (by rw [hsz]; decide) (by kernel_rfl))).trans (hF 9 (by decide))
      clear hρ hF sl1 sl2 sl5 fin
      exact opv_enter (by go_simp <;> rfl) (of_ret (space_c s l n 1 w1 hok))
    · refine owes_v (Go.Op.buildSlice 106 5 #[(0, Go.Operand.tmp 10), (1, Go.Operand.tmp 12), (2, Go.Operand.tmp 14), (3, Go.Operand.tmp 16), (4, Go.Operand.tmp 18)]) 106 [2, 4, 6, 8, 10] (by kernel_rfl) (by kernel_rfl) (by kernel_rfl) rfl fun vals w1 ρ hG hF hρ hcst hfun => ?_
      have e10 : ρ (.tmp 10) = .agg #[.int .i64 0, .int .i64 1] := ((hρ 10).trans (slotJ [2, 4, 6, 8, 10] (by rw [hsz]; decide) (by kernel_rfl))).trans (hF 2 (by decide))
      have e12 : ρ (.tmp 12) = .agg #[.int .i64 1, .int .i64 1] := ((hρ 12).trans (slotJ [2, 4, 6, 8, 10] (by rw [hsz]; decide) (by kernel_rfl))).trans (hF 4 (by decide))
      have e14 : ρ (.tmp 14) = .agg #[.int .i64 2, .int .i64 l] := ((hρ 14).trans (slotJ [2, 4, 6, 8, 10] (by rw [hsz]; decide) (by kernel_rfl))).trans (hF 6 (by decide))
      have e16 : ρ (.tmp 16) = .agg #[.int .i64 (2 + l), .int .i64 (oneG s n)] := ((hρ 16).trans (slotJ [2, 4, 6, 8, 10] (by rw [hsz]; decide) (by kernel_rfl))).trans (hF 8 (by decide))
      have e18 : ρ (.tmp 18) = .agg #[.int .i64 (2 + l + oneG s n), .int .i64 (oneG s n)] := ((hρ 18).trans (slotJ [2, 4, 6, 8, 10] (by rw [hsz]; decide) (by kernel_rfl))).trans (hF 10 (by decide))
      clear hρ hF hcst hfun sl1 sl2 sl5 fin
      exact opv_val (by go_simp <;> rfl) ⟨Gw.alloc _ _, plrow5 w1 46 0 1 1 1 2 l (2 + l) (oneG s n) (2 + l + oneG s n) (oneG s n)⟩
    · refine owes_v (Go.Op.call { callee := Go.Callee.value (Go.Operand.func 62), args := #[Go.Operand.tmp 8, Go.Operand.tmp 19], argTypes := #[3, 106] }) 46 [0, 11] (by kernel_rfl) (by kernel_rfl) (by kernel_rfl) rfl fun vals w1 ρ hG hF hρ hcst hfun => ?_
      have e8 : ρ (.tmp 8) = .int .i64 x := ((hρ 8).trans (slotJ [0, 11] (by rw [hsz]; decide) (by kernel_rfl))).trans (hF 0 (by decide))
      have f19 : (PlSl (allG s l n)) (vals 11) w1 := hF 11 (by decide)
      have e19 : ρ (.tmp 19) = vals 11 := (hρ 19).trans (slotJ [0, 11] (by rw [hsz]; decide) (by kernel_rfl))
      clear hρ hF hcst sl1 sl2 sl5 fin
      exact opv_enter (by go_simp <;> rfl) (of_ret (har.out ▸ around_s x (allG s l n) _ w1 f19 (by simp [allG]) (by have := oneG_bd s n hok.s1 hok.s2 hok.n1 hok.n2; have := hok.l1; have := hok.l2; intro p hp; simp only [allG, List.mem_cons, List.not_mem_nil, or_false] at hp; rcases hp with rfl | rfl | rfl | rfl | rfl <;> simp <;> omega)))
  · intro vals w1 hG hF
    exact fin vals w1 hG (hF 12 (by decide +kernel))
end Go.Proofs.Ytgdgajieekkmdaa
