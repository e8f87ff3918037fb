/- Texts joined: DecD LeN DecE CodA StF StG StH RdA. -/
import Derived.Test.YtbanbpphadgoiaaZb5
import Derived.Test.YtbanbpphadgoiaaBitsB
import Derived.Lib.SmallJoins
import Derived.Deep.LoopGhost
/- What codec.Dec's Raw and Words read of what was written. Conditions: lengths. -/
namespace Go.Proofs.Ytbanbpphadgoiaa
set_option linter.unusedVariables false
set_option linter.unusedSimpArgs false
open Go.RowKit
def RawP (g : Nat) (xs rest : List (BitVec 8)) (w : World) (e : Ending) (w' : World) : Prop := ∃ A c, e = .returned (.slice A xs.length c) ∧ Rd b8 w' w'.heap.size A xs ∧ DecAt w' g rest 0 ∧ Only w w' g ∧ ∀ a, A = some a → w.heap.size ≤ a.block
theorem DecAt.below {w w' : World} {g : Nat} {bs : List (BitVec 8)} {err : Int} (h : DecAt w g bs err) (hb : Below w.heap.size w w') : DecAt w' g bs err := by
  obtain ⟨A, c, hk, hc, hr, ha⟩ := h.ex
  exact ⟨A, c, hk.below hb hk.lt, hc, (hr.below hb).more hb.size, ha⟩
theorem DecAt.lt {w : World} {g : Nat} {bs : List (BitVec 8)} {err : Int} (h : DecAt w g bs err) : g < w.heap.size := by
  obtain ⟨A, c, hk, _⟩ := h.ex
  exact hk.lt
set_option maxHeartbeats 400000
set_option maxRecDepth 100000
end Go.Proofs.Ytbanbpphadgoiaa
/- Bytes of a number, the lowest first, and that number. No conditions. -/
namespace Go.Proofs.Ytbanbpphadgoiaa
set_option linter.unusedVariables false
set_option linter.unusedSimpArgs false
open Go.RowKit
end Go.Proofs.Ytbanbpphadgoiaa
/- What codec.Dec's Words reads of what was written. Conditions: lengths. -/
namespace Go.Proofs.Ytbanbpphadgoiaa
set_option linter.unusedVariables false
set_option linter.unusedSimpArgs false
open Go.RowKit
def flatW (ws : List (BitVec 64)) : List (BitVec 8) := (ws.map fun x => lowN x 8).flatten
def WrdP (g : Nat) (ws : List (BitVec 64)) (rest : List (BitVec 8)) (w : World) (e : Ending) (w' : World) : Prop := ∃ q, e = .returned (.slice (some ⟨q, 0, none⟩) ws.length ws.length) ∧ Rd u64w w' w'.heap.size (some ⟨q, 0, none⟩) ws ∧ DecAt w' g rest 0 ∧ Only w w' g ∧ w.heap.size ≤ q
def partW (ws : List (BitVec 64)) (k : Nat) : List (BitVec 64) := ws.take k ++ List.replicate (ws.length - k) 0#64
set_option maxHeartbeats 800000
set_option maxRecDepth 100000
end Go.Proofs.Ytbanbpphadgoiaa
/- What codec.Enc's Bytes answers; the last region of loamlaw5.known. Conditions: lengths. -/
namespace Go.Proofs.Ytbanbpphadgoiaa
set_option linter.unusedVariables false
set_option linter.unusedSimpArgs false
open Go.RowKit
theorem EncAt.below {w w' : World} {B g : Nat} {v : Value} {bs : List (BitVec 8)} (h : EncAt w B g v bs) (hb : Below w.heap.size w w') : EncAt w' B g v bs := ⟨h.blk.below hb h.blk.lt, h.ge, h.row.below hb, h.ne⟩
theorem Bk.only {w w' : World} {g d : Nat} {E : TypeId} {cs : Array Value} (h : Bk w g E cs) (ho : Only w w' d) (hne : g ≠ d) : Bk w' g E cs := (ho.block g h.lt hne).trans h
/-- Block g holds a writer of the bytes bs; of w0 all below B is as it was. -/
def EncS (w0 : World) (B g : Nat) (bs : List (BitVec 8)) (w : World) : Prop := ∃ v, EncAt w B g v bs ∧ Below B w0 w
theorem EncS.below {w0 w w' : World} {B g : Nat} {bs : List (BitVec 8)} (h : EncS w0 B g bs w) (hb : Below w.heap.size w w') : EncS w0 B g bs w' := by
  obtain ⟨v, h1, h2⟩ := h
  exact ⟨v, h1.below hb, h2.trans (hb.mono (Nat.le_trans h1.ge (Nat.le_of_lt h1.blk.lt)))⟩
theorem EncS.new (w : World) : EncS w w.heap.size w.heap.size [] (w.alloc (.cells #[.slice none 0 0] 92)) :=
  ⟨.slice none 0 0, ⟨Bk.new w _ _, Nat.le_refl _, Ow.nil_ _ _ _ _, by intro h; cases h⟩, (Below.refl _ _).alloc (Nat.le_refl _) _⟩
theorem EncS.uint {w0 w : World} {B g : Nat} {bs : List (BitVec 8)} (x : BitVec 64) (h : EncS w0 B g bs w) (hl : bs.length ≤ 1073741824) :
    Calls Try.prog 43 #[.pointer (some ⟨g, 0, none⟩), .int .u64 (U64 x)] w fun e w' => e = .returned (.tuple #[]) ∧ EncS w0 B g (bs ++ uintL x) w' := by
  obtain ⟨v, h1, h2⟩ := h
  refine (enc_uint w B g v bs x h1 hl).mono ?_
  rintro e w' ⟨rfl, v', h3, h4⟩
  exact ⟨rfl, v', h3, h2.trans (h4.below h1)⟩
theorem EncS.apart {w0 w : World} {B g k : Nat} {bs : List (BitVec 8)} {v : Value} (h : EncAt w B g v bs) (hk : w.heap.size ≤ k) : k ≠ g ∧ v.ownBlock ≠ some k := by
  refine ⟨fun e => by have := h.blk.lt; omega, fun e => ?_⟩
  have := (h.row.lt k e).2
  omega
/-- Block g holds a writer of bytes that are read. -/
def EncR (g : Nat) (bs : List (BitVec 8)) (w : World) : Prop := ∃ A c, Bk w g 92 #[.slice A bs.length c] ∧ Rd b8 w w.heap.size A bs
theorem EncS.out {w0 w : World} {B g : Nat} {bs : List (BitVec 8)} (h : EncS w0 B g bs w) : EncR g bs w ∧ Below B w0 w ∧ B ≤ g ∧ g < w.heap.size := by
  obtain ⟨v, h1, h2⟩ := h
  obtain ⟨A, c, e, hc⟩ := h1.row.form
  subst e
  exact ⟨⟨A, c, h1.blk, h1.row.rd⟩, h2, h1.ge, h1.blk.lt⟩
theorem EncR.below {w w' : World} {g : Nat} {bs : List (BitVec 8)} (h : EncR g bs w) (hb : Below w.heap.size w w') : EncR g bs w' := by
  obtain ⟨A, c, h1, h2⟩ := h
  exact ⟨A, c, h1.below hb h1.lt, (h2.below hb).more hb.size⟩
theorem EncR.only {w w' : World} {g d B : Nat} {bs : List (BitVec 8)} (h : ∃ A c, Bk w g 92 #[.slice A bs.length c] ∧ Rd b8 w B A bs) (ho : Only w w' d) (hB : B ≤ d) (hg : g ≠ d) : ∃ A c, Bk w' g 92 #[.slice A bs.length c] ∧ Rd b8 w' B A bs := by
  obtain ⟨A, c, h1, h2⟩ := h
  refine ⟨A, c, h1.only ho hg, fun j hj => ?_⟩
  obtain ⟨ad, e, hb, hc⟩ := h2 j hj
  refine ⟨ad, e, hb, ?_⟩
  rw [← hc]
  rcases Nat.lt_or_ge ad.block w.heap.size with hl | hl
  · exact World.cell?_of_block (by rw [add_block]; exact ho.block _ hl (by omega))
  · have hn : w.cell? (ad.add j) = none := by
      unfold World.cell?
      rw [add_block, Array.getElem?_eq_none hl]
    rw [hn] at hc
    cases hc
theorem enc_bytes (w : World) (g : Nat) (bs : List (BitVec 8)) (h : EncR g bs w) (hl : bs.length ≤ 1073741824) : Calls Try.prog 44 #[.pointer (some ⟨g, 0, none⟩)] w (CloneP bs w) := by
  obtain ⟨A, c, hk, hr⟩ := h
  have c0 := hk.cell 0
  have hgl := hk.lt
  have HC := Lib.hid (clone_c bs A c w hr hl)
  obtain ⟨N, hN⟩ : ∃ N, N = bs.length := ⟨_, rfl⟩
  rw [← hN] at c0 HC
  have HN := Lib.hid hN
  clear hk hr hN
  go_enter Try.func44, Try.ntmps44
  go_wp2_with fail
  refine Calls.mono HC.out ?_
  rintro e w1 ⟨A2, c2, rfl, h2, r2, b2, a2⟩
  go_wp2_with fail
  go_ret
  exact ⟨A2, c2, rfl, h2, r2, b2, a2⟩
end Go.Proofs.Ytbanbpphadgoiaa
/- A collector's result and state. Conditions: lengths. -/
namespace Go.Proofs.Ytbanbpphadgoiaa
set_option linter.unusedVariables false
set_option linter.unusedSimpArgs false
open Go.RowKit Go.Maps
set_option maxHeartbeats 1000000
set_option maxRecDepth 100000
/-- A row of ints of its own. -/
def RzV (B n : Nat) (xs : List Int) (x : Value) (w : World) : Prop := ∃ A c, x = .slice A n c ∧ Ow zV 3 w B (.slice A n c) xs
theorem RzV.mono {B n : Nat} {xs : List Int} {x : Value} {a b : World} (h : RzV B n xs x a) (g : Gw a b) : RzV B n xs x b := by
  obtain ⟨A, c, e, h⟩ := h
  exact ⟨A, c, e, h.below g⟩
theorem of_sp {w w1 : World} {C : Nat} {ws : List (BitVec 64)} {t : Nat} (hs : w.heap.size ≤ w1.heap.size) (h : Calls Try.prog 45 #[.pointer (some ⟨C, 0, none⟩)] w1 fun r w' => ∃ s' g' v', r = .returned (.pointer (some ⟨s', 0, none⟩)) ∧ SpAt w' w1.heap.size s' g' v' ws 0 t ws.length ∧ Below w1.heap.size w1 w') :
    Calls Try.prog 45 #[.pointer (some ⟨C, 0, none⟩)] w1 fun e w2 => ∃ u, e = .returned u ∧ Below w1.heap.size w1 w2 ∧ SpV w.heap.size ws 0 t ws.length u w2 :=
  Calls.mono h fun e w' ⟨s', g', v', e1, h1, h2⟩ => ⟨_, e1, h2, s', g', v', rfl, ⟨⟨h1.mem.blk, Nat.le_trans hs h1.mem.ge, h1.mem.row.mono hs, h1.mem.ne⟩, h1.blk, h1.sg, h1.sv, Nat.le_trans hs h1.hs, h1.bt, h1.te, h1.el⟩⟩
theorem of_icl {w w1 : World} {A : Option Addr} {n c : Nat} {xs : List Int} (hn : n = xs.length) (hs : w.heap.size ≤ w1.heap.size) (h : Calls Try.prog 33 #[.slice A xs.length c] w1 fun r w' => ∃ A2 c2, r = .returned (.slice A2 xs.length c2) ∧ Ow zV 3 w' w1.heap.size (.slice A2 xs.length c2) xs ∧ Below w1.heap.size w1 w') :
    Calls Try.prog 33 #[.slice A n c] w1 fun e w2 => ∃ u, e = .returned u ∧ Below w1.heap.size w1 w2 ∧ RzV w.heap.size n xs u w2 := by
  subst hn
  exact Calls.mono h fun e w' ⟨A2, c2, e1, h1, h2⟩ => ⟨_, e1, h2, A2, c2, rfl, h1.mono hs⟩
theorem re5 (Q : Exit → Act → World → Prop) (a0 : Act) (w : World) (D C i c t : Nat) (A : Option Addr) (ws : List (BitVec 64)) (xs : List Int) (hQ : D < w.heap.size) (hi : i = xs.length) (d0 : w.cell? ⟨D, 0, none⟩ = some (.pointer (some ⟨C, 0, none⟩))) (d2 : w.cell? ⟨D, 2, none⟩ = some (.slice A i c)) (hp : Hid (∀ W, Below w.heap.size w W → Calls Try.prog 45 #[.pointer (some ⟨C, 0, none⟩)] W fun r w' => ∃ s' g' v', r = .returned (.pointer (some ⟨s', 0, none⟩)) ∧ SpAt w' W.heap.size s' g' v' ws 0 t ws.length ∧ Below W.heap.size W w')) (hq : Hid (∀ W, Below w.heap.size w W → Calls Try.prog 33 #[.slice A xs.length c] W fun r w' => ∃ A2 c2, r = .returned (.slice A2 xs.length c2) ∧ Ow zV 3 w' W.heap.size (.slice A2 xs.length c2) xs ∧ Below W.heap.size W w')) (hsz : a0.tmps.size = 22) (sl0 : a0.tmps.getD 0 undef = .pointer (some ⟨D, 0, none⟩))
    (fin : ∀ (vals : Nat → Value) (w1 : World), Below w.heap.size w w1 → (SpV w.heap.size ws 0 t ws.length) (vals 10) w1 → (RzV w.heap.size i xs) (vals 11) w1 → (IsV (.int .i64 0)) (vals 12) w1 → Q .normal (putD vals [12, 13, 14, 15, 16, 17, 18, 19, 20, 21, 2, 3, 4] 0 a0) w1) :
    (Code.region 5 (regIn Try.f17 5) true).wp Try.prog Q a0 w := by
  refine region_by (G := fun w w1 => Below w.heap.size w w1) [IsV (.pointer (some ⟨D, 0, none⟩)),
    IsV (.pointer (some ⟨D, 0, none⟩)),
    IsV (.pointer (some ⟨D, 0, none⟩)),
    IsV (.pointer (some ⟨C, 0, none⟩)),
    SpV w.heap.size ws 0 t ws.length,
    IsV (.pointer (some ⟨D, 0, none⟩)),
    IsV (.pointer (some ⟨D, 0, none⟩)),
    IsV (.pointer (some ⟨D, 2, none⟩)),
    IsV (.slice A i c),
    RzV w.heap.size i xs,
    SpV w.heap.size ws 0 t ws.length,
    RzV w.heap.size i xs,
    IsV (.int .i64 0)]
    [12, 13, 14, 15, 16, 17, 18, 19, 20, 21, 2, 3, 4] (by kernel_rfl) (Gw.drew _) Gw.trans (by rw [hsz]; kernel_rfl) (by kernel_rfl) ?_ ?_ ?_
  · intro f hf
    simp only [List.mem_cons, List.not_mem_nil, or_false] at hf
    rcases hf with rfl | rfl | rfl | rfl | rfl | rfl | rfl | rfl | rfl | rfl | rfl | rfl | rfl <;> intro v a b h g <;> first | exact IsV.mono h | exact SpV.mono h g | exact RzV.mono h g
  · refine ⟨?_, ?_, ?_, ?_, ?_, ?_, ?_, ?_, ?_, ?_, ?_, ?_, ?_, trivial⟩
    · exact owes_mv 0 (by kernel_rfl) (by kernel_rfl) (by kernel_rfl) sl0 (fun _ => rfl)
    · refine owes_v (Go.Op.nilCheck (Go.Operand.tmp 12)) 0 [0] (by kernel_rfl) (by kernel_rfl) (by kernel_rfl) rfl fun vals w1 ρ hG hF hρ hcst hfun => ?_
      have e12 : ρ (.tmp 12) = .pointer (some ⟨D, 0, none⟩) := ((hρ 12).trans (slotJ [0] (by rw [hsz]; decide) (by kernel_rfl))).trans (hF 0 (by decide))
      clear hρ hF hcst hfun sl0 fin
      exact opv_val (by go_simp <;> rfl) ⟨gw_self _, rfl⟩
    · refine owes_v (Go.Op.fieldAddr 84 (Go.Operand.tmp 13) 0) 0 [1] (by kernel_rfl) (by kernel_rfl) (by kernel_rfl) rfl fun vals w1 ρ hG hF hρ hcst hfun => ?_
      have e13 : ρ (.tmp 13) = .pointer (some ⟨D, 0, none⟩) := ((hρ 13).trans (slotJ [1] (by rw [hsz]; decide) (by kernel_rfl))).trans (hF 1 (by decide))
      clear hρ hF hcst hfun sl0 fin
      exact opv_val (by go_simp <;> rfl) ⟨gw_self _, rfl⟩
    · refine owes_v (Go.Op.load 79 (Go.Operand.tmp 14)) 79 [2] (by kernel_rfl) (by kernel_rfl) (by kernel_rfl) rfl fun vals w1 ρ hG hF hρ hcst hfun => ?_
      have e14 : ρ (.tmp 14) = .pointer (some ⟨D, 0, none⟩) := ((hρ 14).trans (slotJ [2] (by rw [hsz]; decide) (by kernel_rfl))).trans (hF 2 (by decide))
      have k := (hG.cell (p := ⟨D, 0, none⟩) hQ).trans d0
      clear hρ hF hcst hfun sl0 fin
      exact opv_val (by go_simp <;> rfl) ⟨gw_self _, rfl⟩
    · refine owes_v (Go.Op.call { callee := Go.Callee.value (Go.Operand.func 45), args := #[Go.Operand.tmp 15], argTypes := #[79] }) 26 [3] (by kernel_rfl) (by kernel_rfl) (by kernel_rfl) rfl fun vals w1 ρ hG hF hρ hcst hfun => ?_
      have e15 : ρ (.tmp 15) = .pointer (some ⟨C, 0, none⟩) := ((hρ 15).trans (slotJ [3] (by rw [hsz]; decide) (by kernel_rfl))).trans (hF 3 (by decide))
      clear hρ hF hcst sl0 fin
      exact opv_enter (by go_simp <;> rfl) (of_sp hG.size (hp.out w1 hG))
    · exact owes_mv 0 (by kernel_rfl) (by kernel_rfl) (by kernel_rfl) sl0 (fun _ => rfl)
    · refine owes_v (Go.Op.nilCheck (Go.Operand.tmp 17)) 0 [5] (by kernel_rfl) (by kernel_rfl) (by kernel_rfl) rfl fun vals w1 ρ hG hF hρ hcst hfun => ?_
      have e17 : ρ (.tmp 17) = .pointer (some ⟨D, 0, none⟩) := ((hρ 17).trans (slotJ [5] (by rw [hsz]; decide) (by kernel_rfl))).trans (hF 5 (by decide))
      clear hρ hF hcst hfun sl0 fin
      exact opv_val (by go_simp <;> rfl) ⟨gw_self _, rfl⟩
    · refine owes_v (Go.Op.fieldAddr 84 (Go.Operand.tmp 18) 2) 0 [6] (by kernel_rfl) (by kernel_rfl) (by kernel_rfl) rfl fun vals w1 ρ hG hF hρ hcst hfun => ?_
      have e18 : ρ (.tmp 18) = .pointer (some ⟨D, 0, none⟩) := ((hρ 18).trans (slotJ [6] (by rw [hsz]; decide) (by kernel_rfl))).trans (hF 6 (by decide))
      clear hρ hF hcst hfun sl0 fin
      exact opv_val (by go_simp <;> rfl) ⟨gw_self _, rfl⟩
    · refine owes_v (Go.Op.load 23 (Go.Operand.tmp 19)) 23 [7] (by kernel_rfl) (by kernel_rfl) (by kernel_rfl) rfl fun vals w1 ρ hG hF hρ hcst hfun => ?_
      have e19 : ρ (.tmp 19) = .pointer (some ⟨D, 2, none⟩) := ((hρ 19).trans (slotJ [7] (by rw [hsz]; decide) (by kernel_rfl))).trans (hF 7 (by decide))
      have k := (hG.cell (p := ⟨D, 2, none⟩) hQ).trans d2
      clear hρ hF hcst hfun sl0 fin
      exact opv_val (by go_simp <;> rfl) ⟨gw_self _, rfl⟩
    · refine owes_v (Go.Op.call { callee := Go.Callee.value (Go.Operand.func 33), args := #[Go.Operand.tmp 20], argTypes := #[23] }) 23 [8] (by kernel_rfl) (by kernel_rfl) (by kernel_rfl) rfl fun vals w1 ρ hG hF hρ hcst hfun => ?_
      have e20 : ρ (.tmp 20) = .slice A i c := ((hρ 20).trans (slotJ [8] (by rw [hsz]; decide) (by kernel_rfl))).trans (hF 8 (by decide))
      clear hρ hF hcst sl0 fin
      exact opv_enter (by go_simp <;> rfl) (of_icl hi hG.size (hq.out w1 hG))
    · exact owes_mvj 4 16 (by kernel_rfl) (by kernel_rfl) (by kernel_rfl) (by kernel_rfl) (by rw [hsz]; decide) (fun v w h => h)
    · exact owes_mvj 9 21 (by kernel_rfl) (by kernel_rfl) (by kernel_rfl) (by kernel_rfl) (by rw [hsz]; decide) (fun v w h => h)
    · refine owes_v (Go.Op.assign (Go.Operand.const (Go.Value.int Go.IntKind.i64 0))) 32 [] (by kernel_rfl) (by kernel_rfl) (by kernel_rfl) rfl fun vals w1 ρ hG hF hρ hcst hfun => ?_
      clear hρ hF hfun sl0 fin
      exact opv_val (by go_simp <;> rfl) ⟨gw_self _, rfl⟩
  · intro vals w1 hG hF
    exact fin vals w1 hG (hF 10 (by decide +kernel)) (hF 11 (by decide +kernel)) (hF 12 (by decide +kernel))
section
variable {B Q : Nat} {S : Nat → Prop} {f : CoF} {roots : List Int} {xw : Value} {s : Sc}
theorem result_full (w : World) {c : Int} (p : CoAt w B S Q f roots xw s c true) : Calls Try.prog 17 #[.pointer (some ⟨Q, 0, none⟩)] w (RetP (.tuple #[.pointer none, .slice none 0 0, .int .i64 6]) w) := by
  obtain ⟨c0, c1, c2, c3, c4, c5⟩ := p.blk.six
  clear p
  go_enter Try.func17, Try.ntmps17
  go_wp2_with fail
  go_ret3
  exact ⟨rfl, Below.refl _ _⟩
theorem result_busy (w : World) {c : Int} (p : CoAt w B S Q f roots xw s c false) (hrl : roots.length ≤ 100000) (hql : s.qs.length ≤ 100000) (hd : doneS (roots.map rootP) s = false) : Calls Try.prog 17 #[.pointer (some ⟨Q, 0, none⟩)] w (RetP (.tuple #[.pointer none, .slice none 0 0, .int .i64 8]) w) := by
  have hdd : decide (s.qs.length = roots.length ∧ s.sc = s.c.top) = false := by rw [← hd]; unfold doneS; rw [List.length_map]
  have HD := Lib.hid (done_c w p hrl hql)
  rw [hdd] at HD
  obtain ⟨c0, c1, c2, c3, c4, c5⟩ := p.blk.six
  clear p hdd hd
  go_enter Try.func17, Try.ntmps17
  go_wp2_with fail
  refine Calls.mono HD.out ?_
  rintro r w2 ⟨rfl, b2⟩
  have H2 := Lib.hid b2
  clear b2
  go_wp2_with fail
  go_ret3
  exact ⟨rfl, H2.out⟩
theorem result_c (w : World) {c : Int} (p : CoAt w B S Q f roots xw s c false) (hrl : roots.length ≤ 100000) (hql : s.qs.length ≤ 100000) (hTl : s.c.T.length ≤ 8192) (hd : doneS (roots.map rootP) s = true) : Calls Try.prog 17 #[.pointer (some ⟨Q, 0, none⟩)] w fun r w' => ∃ s' g' v' A2 c2, r = .returned (.tuple #[.pointer (some ⟨s', 0, none⟩), .slice A2 s.qs.length c2, .int .i64 0]) ∧ SpAt w' w.heap.size s' g' v' s.c.T 0 s.c.top s.c.T.length ∧ Ow zV 3 w' w.heap.size (.slice A2 s.qs.length c2) (backZ s.qs) ∧ Below w.heap.size w w' := by
  have hdd : decide (s.qs.length = roots.length ∧ s.sc = s.c.top) = true := by rw [← hd]; unfold doneS; rw [List.length_map]
  have HD := Lib.hid (done_c w p hrl hql)
  rw [hdd] at HD
  obtain ⟨A, c, A2, c2, e1, e2⟩ := p.form
  have hk := p.blk
  have hw := p.ww
  rw [e1, e2] at hk
  rw [e1] at hw
  obtain ⟨k0, k1, k2, k3, k4, k5⟩ := hk.six
  have hi : s.qs.length = (backZ s.qs).length := by simp [backZ]
  have hQ := p.blk.lt
  have HP := Lib.hid p
  have hrw : Rd zV w w.heap.size A (backZ s.qs) := by
    have := hw
    rw [hi] at this
    exact this.rd
  have HRw := Lib.hid hrw
  obtain ⟨N, hN⟩ : ∃ N, N = roots.length := ⟨_, rfl⟩
  rw [← hN] at k1
  have HL := Lib.hid (show (backZ s.qs).length ≤ 1073741824 by simp [backZ]; omega)
  obtain ⟨xs, hxs⟩ : ∃ xs, xs = backZ s.qs := ⟨_, rfl⟩
  rw [← hxs] at HRw HL hi
  obtain ⟨i, hii⟩ : ∃ i, i = s.qs.length := ⟨_, rfl⟩
  rw [← hii] at k2 hi ⊢
  rw [← hxs]
  clear hk hw e1 e2 p hdd hd hrw hN hxs hii hql hrl
  go_enter Try.func17, Try.ntmps17
  go_wp2_with fail
  refine Calls.mono HD.out ?_
  rintro r w2 ⟨rfl, b2⟩
  have H2 := Lib.hid b2
  have e0 := (b2.cell (p := ⟨Q, 0, none⟩) hQ).trans k0
  have e2 := (b2.cell (p := ⟨Q, 2, none⟩) hQ).trans k2
  have hQ2 := Nat.lt_of_lt_of_le hQ b2.size
  clear b2 k0 k1 k2 k3 k4 k5
  go_wp2_with fail
  refine re5 _ _ _ Q f.C i c s.c.top A s.c.T xs hQ2 hi e0 e2 (Lib.hid fun W hW => cspace_c W (HP.out.cy.below (H2.out.trans (hW.mono H2.out.size))) hTl) (Lib.hid fun W hW => iclone_z xs A c W ((HRw.out.below (H2.out.trans (hW.mono H2.out.size))).more (H2.out.trans (hW.mono H2.out.size)).size) HL.out) rfl ?_ ?_
  · rfl
  intro vals w3 hG h2 h3 h4
  obtain ⟨s', g', v', e2', hsp⟩ := h2
  obtain ⟨A3, c3, e3', how⟩ := h3
  unfold IsV at h4
  simp only [putD, Act.put, List.setIfInBounds_toArray, List.set_cons_zero, List.set_cons_succ, e2', e3', h4]
  have H3 := Lib.hid (And.intro hsp (And.intro how hG))
  clear hsp how hG e2' e3' h4 e0 e2
  go_wp2_with fail
  go_ret3
  have hs2 := H2.out.size
  have h1 := H3.out.1
  exact ⟨s', g', v', A3, c3, rfl, ⟨⟨h1.mem.blk, Nat.le_trans hs2 h1.mem.ge, h1.mem.row.mono hs2, h1.mem.ne⟩, h1.blk, h1.sg, h1.sv, Nat.le_trans hs2 h1.hs, h1.bt, h1.te, h1.el⟩, H3.out.2.1.mono hs2, H2.out.trans (H3.out.2.2.mono hs2)⟩
theorem stU64 (c : Nat) (h : c < 18446744073709551616) : U64 (BitVec.ofNat 64 c) = (c : Int) := by
  unfold U64
  rw [BitVec.toNat_ofNat, Nat.mod_eq_of_lt (by omega)]
theorem state_c (w : World) (c : Nat) (hc : c < 9223372036854775807) (p : CoAt w B S Q f roots xw s c false) : Calls Try.prog 14 #[.pointer (some ⟨Q, 0, none⟩)] w (CloneP (uintL (BitVec.ofNat 64 c)) w) := by
  obtain ⟨c0, c1, c2, c3, c4, c5⟩ := p.blk.six
  rw [← stU64 c (by omega)] at c4
  obtain ⟨u, hu⟩ : ∃ u, u = U64 (BitVec.ofNat 64 c) := ⟨_, rfl⟩
  rw [← hu] at c4
  have hQ := p.blk.lt
  have HE0 := Lib.hid (show Calls Try.prog 43 #[.pointer (some ⟨w.heap.size, 0, none⟩), .int .u64 u] (w.alloc (.cells #[.slice none 0 0] 92)) fun e w' => e = .returned (.tuple #[]) ∧ EncS w w.heap.size w.heap.size (uintL (BitVec.ofNat 64 c)) w' from by rw [hu]; exact (EncS.new w).uint (BitVec.ofNat 64 c) (by simp))
  have HL := Lib.hid (show (uintL (BitVec.ofNat 64 c)).length ≤ 1073741824 from by have := uintF_len 9 (BitVec.ofNat 64 c); unfold uintL; omega)
  clear p hc hu
  go_enter Try.func14, Try.ntmps14
  go_wp2_with fail
  refine Calls.mono HE0.out ?_
  rintro r w2 ⟨rfl, h2⟩
  have H2 := Lib.hid h2
  clear h2 c0 c1 c2 c3 c4 c5
  obtain ⟨v2, x1, x2⟩ := H2.out
  obtain ⟨A, n, e, _⟩ := x1.row.form
  have HX := Lib.hid x2
  have HY := Lib.hid (enc_bytes w2 w.heap.size (uintL (BitVec.ofNat 64 c)) ⟨A, n, e ▸ x1.blk, (e ▸ x1.row : Ow b8 5 w2 w.heap.size (.slice A _ n) _).rd⟩ HL.out)
  clear x1 x2 e
  go_wp2_with fail
  refine Calls.mono HY.out ?_
  rintro r w3 ⟨A3, c3, rfl, h3, r3, b3, a3⟩
  have H3 := Lib.hid (And.intro h3 (And.intro r3 (And.intro b3 a3)))
  clear h3 r3 b3 a3
  go_wp2_with fail
  go_ret
  exact ⟨A3, c3, rfl, H3.out.1, H3.out.2.1, HX.out.trans (H3.out.2.2.1.mono HX.out.size), fun a ha => ⟨Nat.le_trans HX.out.size (H3.out.2.2.2 a ha).1, (H3.out.2.2.2 a ha).2⟩⟩
end
end Go.Proofs.Ytbanbpphadgoiaa
/- A collector out of a state: Resume. Conditions: lengths. -/
namespace Go.Proofs.Ytbanbpphadgoiaa
set_option linter.unusedVariables false
set_option linter.unusedSimpArgs false
open Go.RowKit Go.Maps
/-- So many times what is next; none where there is nothing more, or no room. -/
def reS (ps : List Nat) : Nat → Sc → Option Sc
  | 0, s => some s
  | k + 1, s => if doneS ps s = true then none else match onceS ps s with
    | none => none
    | some s' => reS ps k s'
theorem Only.below_ {w w' : World} {g B : Nat} (h : Only w w' g) (hB : B ≤ g) (hs : B ≤ w.heap.size) : Below B w w' := ⟨h.os, h.tape, h.output, h.size, fun k hk => h.block k (by omega) (by omega)⟩
theorem Only.kept_ {w w' : World} {g : Nat} (h : Only w w' g) : Kept (fun k => k = g) w w' := ⟨h.os, h.tape, h.output, h.size, fun k hk hn => h.block k hk hn⟩
/-- What Resume answers. -/
def ResP (w : World) (b t : Nat) (roots : List Int) (n : Nat) (x : Option Sc) (r : Ending) (w' : World) : Prop := match x with
  | some s' => ∃ (S : Nat → Prop) (Q : Nat) (f : CoF) (xw : Value), r = .returned (.tuple #[.pointer (some ⟨Q, 0, none⟩), .int .i64 0]) ∧ CoAt w' w.heap.size S Q f roots xw s' n false ∧ f.b = b ∧ f.t = t ∧ Below w.heap.size w w'
  | none => RetP (.tuple #[.pointer none, .int .i64 2]) w r w'
def stR (ps : List Nat) (ws : List (BitVec 64)) (m : Nat) (st : List (BitVec 8)) : Option Sc := match decF 0 0#64 st with
  | .inr (v, []) => reS ps v.toNat (NewS ws m)
  | _ => none
def stN (st : List (BitVec 8)) : Nat := match decF 0 0#64 st with
  | .inr (v, _) => v.toNat
  | .inl _ => 0
set_option maxHeartbeats 4000000
set_option maxRecDepth 100000
theorem decF_err : ∀ (bs : List (BitVec 8)) (k : Nat) (v : BitVec 64) (e : Int), decF k v bs = .inl e → e = 2 ∨ e = 3
  | [], _, _, e, h => by injection h with h; exact .inr h.symm
  | x :: xs, k, v, e, h => by
    unfold decF at h
    by_cases h1 : (k ≠ 0 ∧ x = 0#8) ∨ (k = 9 ∧ 1 < x.toNat)
    · rw [if_pos h1] at h; injection h with h; exact .inl h.symm
    · rw [if_neg h1] at h
      by_cases h2 : x.toNat < 128
      · rw [if_pos h2] at h; cases h
      · rw [if_neg h2] at h
        exact decF_err xs _ _ e h
theorem decF_rest : ∀ (bs : List (BitVec 8)) (k : Nat) (v : BitVec 64) {x : BitVec 64} {r : List (BitVec 8)}, decF k v bs = .inr (x, r) → r.length ≤ bs.length
  | [], _, _, _, _, h => by cases h
  | y :: xs, k, v, x, r, h => by
    unfold decF at h
    by_cases h1 : (k ≠ 0 ∧ y = 0#8) ∨ (k = 9 ∧ 1 < y.toNat)
    · rw [if_pos h1] at h; cases h
    · rw [if_neg h1] at h
      by_cases h2 : y.toNat < 128
      · rw [if_pos h2] at h
        injection h with h
        injection h with h3 h4
        subst h4
        simp
      · rw [if_neg h2] at h
        have := decF_rest xs _ _ h
        simp; omega
theorem resume_c (w : World) (B s g : Nat) (v : Value) (ws : List (BitVec 64)) (b t e : Nat) (p : SpAt w B s g v ws b t e) (hl : ws.length ≤ 8192) (l : List Nat) (H : Heap ws l b t) (A : Option Addr) (roots : List Int) (c : Nat) (hr : Rd zV w w.heap.size A roots) (hR : RootsOk l roots) (hrw : ∀ r ∈ roots, kW r) (m : Nat) (hm : m ≤ 8192) (hE : checkE ws b t roots = 0) (A2 : Option Addr) (st : List (BitVec 8)) (c2 : Nat) (hst : Rd b8 w w.heap.size A2 st) (hsl : st.length ≤ 1073741824) :
    Calls Try.prog 13 #[.pointer (some ⟨s, 0, none⟩), .slice A roots.length c, .int .i64 m, .slice A2 st.length c2] w (ResP w b t roots (stN st) (stR (roots.map rootP) ws m st)) := by
  have HN := Lib.hid (snew_ok w B s g v ws b t e p hl A roots c hr hR.2 hrw m hm hE)
  have HO := Lib.hid (fun W (hb : Below w.heap.size w W) => of_c st A2 c2 W ((hst.below hb).more hb.size) hsl)
  have HH := Lib.hid H
  have HR := Lib.hid hR
  have HM := Lib.hid (And.intro (show SI ws l b t m (roots.map rootP) (NewS ws m) from si_start H hm) (show measS m (roots.map rootP) (NewS ws m) ≤ 108192 from by
    have h1 := hR.2
    show ((roots.map rootP).length - 0) + (m - 0) ≤ 108192
    rw [List.length_map]; omega))
  have HSl := Lib.hid hsl
  obtain ⟨R, hR0⟩ : ∃ R, R = stR (roots.map rootP) ws m st := ⟨_, rfl⟩
  obtain ⟨T0, hT0⟩ : ∃ T, T = stN st := ⟨_, rfl⟩
  rw [← hR0, ← hT0]
  have HR0 := Lib.hid (And.intro hR0 hT0)
  clear hR0 hT0
  obtain ⟨n, hn⟩ : ∃ n, n = roots.length := ⟨_, rfl⟩
  obtain ⟨n2, hn2⟩ : ∃ n, n = st.length := ⟨_, rfl⟩
  rw [← hn] at HN ⊢
  rw [← hn2] at HO ⊢
  clear p hl hr hrw hm hE hst hn hn2 H hR hsl
  go_enter Try.func13, Try.ntmps13
  go_wp2_with fail
  refine Calls.mono HN.out ?_
  rintro r w2 ⟨S, Q, f, xw, rfl, p2, fb, ft, b2⟩
  have H2 := Lib.hid (And.intro p2 (And.intro fb (And.intro ft b2)))
  clear p2 fb ft b2
  go_wp2_with fail
  refine Calls.mono (HO.out w2 H2.out.2.2.2) ?_
  rintro r w3 ⟨d, rfl, hd1, hd2, hd3, b3⟩
  have H3 := Lib.hid (And.intro hd1 (And.intro hd2 (And.intro hd3 b3)))
  clear hd1 hd2 hd3 b3
  go_wp2_with fail
  have hdec := dec_uint w3 d st H3.out.2.2.1 HSl.out
  cases hF : decF 0 0#64 st with
  | inl er =>
    rw [hF] at hdec
    have hR : stR (roots.map rootP) ws m st = none := by unfold stR; rw [hF]
    have her := decF_err st _ _ er hF
    have HRR := Lib.hid (HR0.out.1.trans hR)
    refine Calls.mono hdec ?_
    rintro r w4 ⟨rfl, h4, o4⟩
    have H4 := Lib.hid (And.intro h4 o4)
    have HE4 := Lib.hid (dec_err w4 d [] er h4)
    have hne : ¬ er = 0 := by omega
    clear hdec hF hR h4 o4 her
    go_wp2_with fail
    refine Calls.mono HE4.out ?_
    rintro r w5 ⟨rfl, hw5⟩
    subst hw5
    go_wp2_with fail
    go_ret2
    have hb3 := H2.out.2.2.2.trans (H3.out.2.2.2.mono H2.out.2.2.2.size)
    rw [HRR.out]
    exact ⟨rfl, hb3.trans (H4.out.2.below_ (Nat.le_trans H2.out.2.2.2.size H3.out.1) hb3.size)⟩
  | inr z =>
    obtain ⟨x, rest⟩ := z
    rw [hF] at hdec
    have hrl := decF_rest st _ _ hF
    refine Calls.mono hdec ?_
    rintro r w4 ⟨rfl, h4, o4⟩
    have H4 := Lib.hid (And.intro h4 o4)
    have HE4 := Lib.hid (dec_err w4 d rest 0 h4)
    have HL4 := Lib.hid (dec_left w4 d rest 0 h4)
    have HF := Lib.hid hF
    have hRn : stN st = x.toNat := by unfold stN; rw [hF]
    obtain ⟨T, hT⟩ : ∃ T, T = x.toNat := ⟨_, rfl⟩
    have hTl : (T : Int) < 18446744073709551616 := by have := x.isLt; omega
    have hU : U64 x = (T : Int) := by unfold U64; rw [hT]
    rw [hU]
    have HT := Lib.hid hT
    have HT0 := Lib.hid (show T0 = T from by rw [HR0.out.2, hRn, hT])
    have hrest : (rest.length : Int) ≤ 1073741824 := by have := HSl.out; omega
    clear hdec hF h4 o4 hRn hT hU hrl
    by_cases hre : rest = []
    · subst hre
      have hRR : stR (roots.map rootP) ws m st = reS (roots.map rootP) T (NewS ws m) := by unfold stR; rw [HF.out, HT.out]
      have hR : R = reS (roots.map rootP) T (NewS ws m) := HR0.out.1.trans hRR
      have hb3 := H2.out.2.2.2.trans (H3.out.2.2.2.mono H2.out.2.2.2.size)
      have hb4 : Below w.heap.size w w4 := hb3.trans (H4.out.2.below_ (Nat.le_trans H2.out.2.2.2.size H3.out.1) hb3.size)
      have p4 : CoAt w4 w.heap.size S Q f roots xw (NewS ws m) 0 false := (H2.out.1.below H3.out.2.2.2).kept H4.out.2.kept_ (fun j hj e => by have h1 := (H2.out.1.own j hj).2; have h2 := H3.out.1; omega)
      have HS := Lib.hid (show ∃ (S' : Nat → Prop) (xw' : Value) (s' : Sc) (c' : Nat), CoAt w4 w.heap.size S' Q f roots xw' s' c' false ∧ SI ws l f.b f.t m (roots.map rootP) s' ∧ Below w.heap.size w w4 ∧ c' + measS m (roots.map rootP) s' ≤ 108192 ∧ c' + T = T ∧ reS (roots.map rootP) T s' = R from ⟨S, xw, NewS ws m, 0, p4, by rw [H2.out.2.1, H2.out.2.2.1]; exact HM.out.1, hb4, by have := HM.out.2; omega, by omega, hR.symm⟩)
      have HFf := Lib.hid (And.intro H2.out.2.1 H2.out.2.2.1)
      clear hRR hR hb3 hb4 p4
      go_wp2_with fail
      refine Calls.mono HE4.out ?_
      rintro r w5 ⟨rfl, hw5⟩
      subst hw5
      go_wp2_with fail
      refine Calls.mono HL4.out ?_
      rintro r w5 ⟨rfl, hw5⟩
      subst hw5
      clear H2 H3 H4 HE4 HL4 HN HO HM
      go_wp2_with fail
      go_loopg [36] T (fun gk x W => Hid (∃ (S' : Nat → Prop) (xw' : Value) (s' : Sc) (c' : Nat), CoAt W w.heap.size S' Q f roots xw' s' c' false ∧ SI ws l f.b f.t m (roots.map rootP) s' ∧ Below w.heap.size w W ∧ c' + measS m (roots.map rootP) s' ≤ 108192 ∧ c' + gk = T ∧ reS (roots.map rootP) gk s' = R))
      case atStart => exact HS
      case round =>
        have hS := hrel
        clear hrel
        obtain ⟨S', xw', s', c', e1, e2, e3, e4, e5, e6⟩ := hS.out
        have hql := e2.qs
        rw [List.length_map] at hql
        have HD := Lib.hid (fun W (hb : Below wr.heap.size wr W) => done_c W (e1.below hb) HR.out.2 (by have := HR.out.2; omega))
        have hdd : decide (s'.qs.length = roots.length ∧ s'.sc = s'.c.top) = doneS (roots.map rootP) s' := by unfold doneS; rw [List.length_map]
        rw [hdd] at HD
        clear HS
        have HE := Lib.hid (And.intro e1 (And.intro e2 (And.intro e3 e5)))
        obtain ⟨c0, c1, c2', c3, c4, c5⟩ := e1.blk.six
        have t0 : (c' : Int) ≤ 108192 := by omega
        by_cases hz : gk = 0
        · have p1 : ¬ (c' : Int) < (T : Int) := by omega
          have hR : R = some s' := by rw [hz] at e6; exact e6.symm
          have hcT : c' = T := by omega
          have HRe := Lib.hid (And.intro hR hcT)
          clear hS e1 e2 e3 e4 e5 e6 hql hdd hR hcT hz
          go_wp2_with fail
          go_ret2
          rw [HRe.out.1, HT0.out, ← HRe.out.2]
          exact ⟨S', Q, f, xw', rfl, HE.out.1, HFf.out.1, HFf.out.2, HE.out.2.2.1⟩
        · obtain ⟨j, hj⟩ : ∃ j, gk = j + 1 := ⟨gk - 1, by omega⟩
          subst hj
          have p1 : (c' : Int) < (T : Int) := by omega
          unfold reS at e6
          cases hb : doneS (roots.map rootP) s' with
          | true =>
            rw [hb] at HD e6
            have hR : R = none := e6.symm.trans (if_pos rfl)
            have HRe := Lib.hid hR
            clear hS e1 e2 e3 e4 e5 e6 hql hdd hR hb hz
            go_wp2_with fail
            refine Calls.mono (HD.out wr (Below.refl _ _)) ?_
            rintro r w6 ⟨rfl, b6⟩
            have H6 := Lib.hid b6
            clear b6 c0 c1 c2' c3 c4 c5
            go_wp2_with fail
            go_ret2
            rw [HRe.out]
            exact ⟨rfl, HE.out.2.2.1.trans (H6.out.mono HE.out.2.2.1.size)⟩
          | false =>
            rw [hb] at HD e6
            have HOc := Lib.hid (fun W (hB : Below wr.heap.size wr W) => once_c W c' (show Heap ws l f.b f.t by rw [HFf.out.1, HFf.out.2]; exact HH.out) HR.out (e1.below hB) e2 hb (by omega))
            cases ho : onceS (roots.map rootP) s' with
            | none =>
              rw [ho] at HOc e6
              have HRe := Lib.hid (show R = none from e6.symm.trans (if_neg (by simp)))
              have HOn := Lib.hid (show ∀ W, Below wr.heap.size wr W → Calls Try.prog 42 #[.pointer (some ⟨Q, 0, none⟩)] W (fun r w' => r = .returned (.int .i64 6) ∧ Kept S' W w' ∧ ∃ s', CoAt w' w.heap.size S' Q f roots xw' s' c' false) from HOc.out)
              clear hS e1 e2 e3 e4 e5 e6 hql hdd hb HOc ho hz
              go_wp2_with fail
              refine Calls.mono (HD.out wr (Below.refl _ _)) ?_
              rintro r w6 ⟨rfl, b6⟩
              have H6 := Lib.hid b6
              clear b6 c0 c1 c2' c3 c4 c5
              go_wp2_with fail
              refine Calls.mono (HOn.out w6 H6.out) ?_
              rintro r w7 ⟨rfl, k7, s7, p7⟩
              have H7 := Lib.hid k7
              clear k7 p7
              go_wp2_with fail
              go_ret2
              rw [HRe.out]
              have hb6 := HE.out.2.2.1.trans (H6.out.mono HE.out.2.2.1.size)
              exact ⟨rfl, hb6.trans (H7.out.below hb6.size (fun k hk => (HE.out.1.own k hk).1))⟩
            | some s2 =>
              rw [ho] at HOc e6
              have e6 : reS (roots.map rootP) j s2 = R := (if_neg (by simp)).symm.trans e6
              obtain ⟨i1, i2⟩ := e2.once (show Heap ws l f.b f.t by rw [HFf.out.1, HFf.out.2]; exact HH.out) HR.out.ps hb ho
              have HNx := Lib.hid (And.intro i1 (And.intro (show (c' + 1) + measS m (roots.map rootP) s2 ≤ 108192 by omega) (And.intro (show (c' + 1) + j = T by omega) e6)))
              have HOn := Lib.hid (show ∀ W, Below wr.heap.size wr W → Calls Try.prog 42 #[.pointer (some ⟨Q, 0, none⟩)] W (fun r w' => r = .returned (.int .i64 0) ∧ Kept S' W w' ∧ ∃ (S2 : Nat → Prop) (xw2 : Value), CoAt w' w.heap.size S2 Q f roots xw2 s2 ((c' + 1 : Nat) : Int) false ∧ ∀ k, S2 k → S' k ∨ W.heap.size ≤ k) from HOc.out)
              clear hS e1 e2 e3 e4 e5 e6 hql hdd hb HOc ho i1 i2 hz
              go_wp2_with fail
              refine Calls.mono (HD.out wr (Below.refl _ _)) ?_
              rintro r w6 ⟨rfl, b6⟩
              have H6 := Lib.hid b6
              clear b6 c0 c1 c2' c3 c4 c5
              go_wp2_with fail
              refine Calls.mono (HOn.out w6 H6.out) ?_
              rintro r w7 ⟨rfl, k7, S2, xw2, p7, n7⟩
              have hb6 := HE.out.2.2.1.trans (H6.out.mono HE.out.2.2.1.size)
              have H7 := Lib.hid (show ∃ (S' : Nat → Prop) (xw' : Value) (s' : Sc) (c' : Nat), CoAt w7 w.heap.size S' Q f roots xw' s' c' false ∧ SI ws l f.b f.t m (roots.map rootP) s' ∧ Below w.heap.size w w7 ∧ c' + measS m (roots.map rootP) s' ≤ 108192 ∧ c' + j = T ∧ reS (roots.map rootP) j s' = R from
                ⟨S2, xw2, s2, c' + 1, p7, HNx.out.1, hb6.trans (k7.below hb6.size (fun k hk => (HE.out.1.own k hk).1)), HNx.out.2.1, HNx.out.2.2.1, HNx.out.2.2.2⟩)
              clear k7 p7 n7 hb6
              go_wp2_with fail
              go_roundg j
              case measure => omega
              case rel => exact H7
    · have hRR : stR (roots.map rootP) ws m st = none := by
        unfold stR
        rw [HF.out]
        cases rest with
        | nil => exact absurd rfl hre
        | cons y ys => rfl
      have HRR := Lib.hid (HR0.out.1.trans hRR)
      have hlr : (0 : Int) < (rest.length : Int) := by
        cases rest with
        | nil => exact absurd rfl hre
        | cons y ys => simp
      obtain ⟨rl, hrl⟩ : ∃ rl : Int, rl = (rest.length : Int) := ⟨_, rfl⟩
      rw [← hrl] at HL4 hlr
      clear hRR hre hrl hrest
      go_wp2_with fail
      refine Calls.mono HE4.out ?_
      rintro r w5 ⟨rfl, hw5⟩
      subst hw5
      go_wp2_with fail
      refine Calls.mono HL4.out ?_
      rintro r w5 ⟨rfl, hw5⟩
      subst hw5
      go_wp2_with fail
      go_ret2
      have hb3 := H2.out.2.2.2.trans (H3.out.2.2.2.mono H2.out.2.2.2.size)
      rw [HRR.out]
      exact ⟨rfl, hb3.trans (H4.out.2.below_ (Nat.le_trans H2.out.2.2.2.size H3.out.1) hb3.size)⟩
end Go.Proofs.Ytbanbpphadgoiaa
/- Steps of any size lead to what copying at once gives; how many steps there are (pure, but for cheney.Copy's errors). Conditions: room for all objects. -/
namespace Go.Proofs.Ytbanbpphadgoiaa
set_option linter.unusedVariables false
set_option linter.unusedSimpArgs false
open Go.RowKit Go.Maps
section
variable {ws : List (BitVec 64)} {l : List Nat} {b t m : Nat} {ps : List Nat} {s s' : Sc} {R : Option (List Nat × Cy)}
/-- What is left to do gives R. -/
def RunR (m : Nat) (ps : List Nat) (R : Option (List Nat × Cy)) (s : Sc) : Prop :=
  (s.sc = 0 ∧ s.qs.length ≤ ps.length ∧ contC m (ps.drop s.qs.length) s.c s.qs = R) ∨ (s.qs.length = ps.length ∧ ∃ f, m + 1 ≤ s.sc + f ∧ ((goC f s.sc s.c).map fun d => (s.qs, d)) = R)
theorem run_r0 : RunR m ps (copyC ws m ps) (NewS ws m) := .inl ⟨rfl, Nat.zero_le _, (copyC_cont ws m ps).symm⟩
theorem RunR.scan (h : RunR m ps R s) (hq : s.qs.length = ps.length) : ∃ f, m + 1 ≤ s.sc + f ∧ ((goC f s.sc s.c).map fun d => (s.qs, d)) = R := by
  rcases h with ⟨h1, h2, h3⟩ | ⟨_, h2⟩
  · refine ⟨m + 1, by omega, ?_⟩
    rw [← h3, List.drop_of_length_le (by omega), h1]
    show _ = finC m s.c (s.qs ++ [])
    rw [List.append_nil]; rfl
  · exact h2
theorem RunR.next (H : Heap ws l b t) (hps : ∀ p ∈ ps, p = 0 ∨ (1 ≤ p ∧ p - 1 ∈ l)) (h : SI ws l b t m ps s) (hd : doneS ps s = false) (he : onceS ps s = some s') (r : RunR m ps R s) : RunR m ps R s' := by
  obtain ⟨ys, h1, h2⟩ := h.ord
  have htm : s.c.top ≤ m := by have := h.inv.2.1.2.2; rw [h.len] at this; exact this
  by_cases hq : s.qs.length < ps.length
  · unfold onceS at he
    rw [if_pos hq] at he
    cases hr : takeP s.c (ps.getD s.qs.length 0) with
    | none => rw [hr] at he; cases he
    | some z =>
      obtain ⟨q, d⟩ := z
      rw [hr] at he
      injection he with he
      subst he
      rcases r with ⟨r1, r2, r3⟩ | ⟨r1, _⟩
      · refine .inl ⟨r1, by simp; omega, ?_⟩
        rw [List.drop_eq_getElem_cons hq, contC_cons] at r3
        have e : ps.getD s.qs.length 0 = ps[s.qs.length] := by rw [List.getD_eq_getElem?_getD, List.getElem?_eq_getElem hq]; rfl
        rw [e] at hr
        rw [hr] at r3
        simpa using r3
      · omega
  · have hne : s.sc < s.c.top := by have := done_no h.qs hd hq; have := h2.le; omega
    obtain ⟨a, ys2, rfl, n1, n2, n3, n4, n5, n6, n7, n8⟩ := next_obj H h.inv h2 h1 hne
    obtain ⟨f, r1, r2⟩ := r.scan (by have := h.qs; omega)
    obtain ⟨f', rfl⟩ : ∃ f', f = f' + 1 := ⟨f - 1, by omega⟩
    have hgo : goC (f' + 1) s.sc s.c = match scanC s.sc (P0 (s.c.T.getD s.sc 0#64)) 0 s.c with
        | none => none
        | some z => goC f' (s.sc + szX (z.T.getD s.sc 0#64)) z := by
      show (if s.sc < s.c.top then _ else _) = _
      rw [if_pos hne]
      cases scanC s.sc (P0 (s.c.T.getD s.sc 0#64)) 0 s.c <;> rfl
    rw [hgo] at r2
    unfold onceS at he
    rw [if_neg hq] at he
    cases hr : scanC s.sc (P0 (s.c.T.getD s.sc 0#64)) 0 s.c with
    | none => rw [hr] at he; cases he
    | some d =>
      rw [hr] at he r2
      injection he with he
      subst he
      obtain ⟨j1, ⟨ext, j2, j3⟩, j4, j5, j6, j7⟩ := scanC_inv H (P0 (s.c.T.getD s.sc 0#64)) 0 s.c ys2 (by omega) h.inv n5 n6 n4 n7 (fun a h => h1 a (.tail _ h)) hr
      have hza : d.T.getD s.sc 0#64 = s.c.T.getD s.sc 0#64 := j7 s.sc (by omega) (by omega)
      have r2 : Option.map (fun d => (s.qs, d)) (goC f' (s.sc + szX (d.T.getD s.sc 0#64)) d) = R := r2
      rw [hza] at r2
      have hqq := h.qs
      exact .inr ⟨show s.qs.length = ps.length by omega, f', show m + 1 ≤ s.sc + szX (s.c.T.getD s.sc 0#64) + f' by omega, r2⟩
/-- A collector with room for all: so many times something was done. -/
structure LawI (ws : List (BitVec 64)) (l : List Nat) (b t m : Nat) (ps : List Nat) (R : Option (List Nat × Cy)) (s : Sc) (c : Nat) : Prop where
  st : ∃ z, StI ws l b t m ps s z ∧ z + s.qs.length = c
  run : RunR m ps R s
theorem LawI.si {c : Nat} (h : LawI ws l b t m ps R s c) : SI ws l b t m ps s := h.st.elim fun _ h => h.1.si
theorem law_start (H : Heap ws l b t) (hm : m ≤ 8192) : LawI ws l b t m ps (copyC ws m ps) (NewS ws m) 0 := ⟨⟨0, st_start H hm, rfl⟩, run_r0⟩
theorem law_once (H : Heap ws l b t) (hps : ∀ p ∈ ps, p = 0 ∨ (1 ≤ p ∧ p - 1 ∈ l)) (hcap : sumZ ws l ≤ m) {c : Nat} (h : LawI ws l b t m ps R s c) (hd : doneS ps s = false) : ∃ s', onceS ps s = some s' ∧ LawI ws l b t m ps R s' (c + 1) ∧ measS m ps s' < measS m ps s := by
  obtain ⟨z, h1, h2⟩ := h.st
  obtain ⟨s', e, k1, k2⟩ := once_ok H hps hcap h1 hd
  refine ⟨s', e, ⟨?_, RunR.next H hps h1.si hd e h.run⟩, k1⟩
  rcases k2 with ⟨_, k3, k4⟩ | ⟨_, k3, k4⟩
  · exact ⟨z, k4, by omega⟩
  · exact ⟨z + 1, k4, by rw [k3]; omega⟩
theorem law_go (H : Heap ws l b t) (hps : ∀ p ∈ ps, p = 0 ∨ (1 ≤ p ∧ p - 1 ∈ l)) (hcap : sumZ ws l ≤ m) : ∀ (k : Nat) (s : Sc) (c : Nat), LawI ws l b t m ps R s c →
    ∃ s' c', goS ps k s c = some (s', c') ∧ LawI ws l b t m ps R s' c' ∧ c' + measS m ps s' ≤ c + measS m ps s ∧ c ≤ c' ∧ c' ≤ c + k ∧ (doneS ps s' = true ∨ c' = c + k)
  | 0, s, c, h => ⟨s, c, rfl, h, Nat.le_refl _, Nat.le_refl _, Nat.le_refl _, .inr rfl⟩
  | k + 1, s, c, h => by
    cases hd : doneS ps s with
    | true => exact ⟨s, c, goS_done hd c _, h, Nat.le_refl _, Nat.le_refl _, by omega, .inl hd⟩
    | false =>
      obtain ⟨s1, e1, h1, m1⟩ := law_once H hps hcap h hd
      obtain ⟨s2, c2, e2, h2, m2, n2, n3, d2⟩ := law_go H hps hcap k s1 (c + 1) h1
      refine ⟨s2, c2, ?_, h2, by omega, by omega, by omega, d2.imp id (fun h => by omega)⟩
      unfold goS
      rw [if_neg (by rw [hd]; simp), e1]
      exact e2
end
theorem check0 {ws : List (BitVec 64)} {b t : Nat} {l : List Nat} {roots : List Int} (ho : objF ws t (t + 1) b = some l) (h : checkE ws b t roots = 0) : l.all (wellN ws l) = true ∧ roots.all (rootB l) = true := by
  unfold checkE at h
  rw [ho] at h
  simp only at h
  by_cases h1 : l.all (wellN ws l) = true
  · rw [if_pos h1] at h
    by_cases h2 : roots.all (rootB l) = true
    · exact ⟨h1, h2⟩
    · rw [if_neg h2] at h; cases h
  · rw [if_neg h1] at h; cases h
set_option maxHeartbeats 1000000
set_option maxRecDepth 100000
end Go.Proofs.Ytbanbpphadgoiaa
/- Steps and the document's collector, told alike (pure). No conditions. -/
namespace Go.Proofs.Ytbanbpphadgoiaa
set_option linter.unusedVariables false
set_option linter.unusedSimpArgs false
open Go.RowKit Go.Maps
/-- So many times what is next; none: it did not fit. -/
def itF (ps : List Nat) : Nat → Sc → Option Sc
  | 0, s => some s
  | n + 1, s => if doneS ps s = true then some s else match onceS ps s with
    | none => none
    | some s' => itF ps n s'
section
variable {ws : List (BitVec 64)} {l : List Nat} {b t m : Nat} {ps : List Nat} {s s' : Sc} {R : Option (List Nat × Cy)}
theorem itF_done (h : doneS ps s = true) : ∀ n, itF ps n s = some s
  | 0 => rfl
  | n + 1 => by unfold itF; rw [if_pos h]
theorem go_it : ∀ (n : Nat) (s : Sc) (c : Nat), (goS ps n s c).map Prod.fst = itF ps n s
  | 0, s, c => rfl
  | n + 1, s, c => by
    unfold goS itF
    cases hd : doneS ps s with
    | true => rw [if_pos rfl, if_pos rfl]; rfl
    | false =>
      rw [if_neg (by decide), if_neg (by decide)]
      cases ho : onceS ps s with
      | none => rfl
      | some s' => exact go_it n s' (c + 1)
theorem go_some {n c : Nat} (h : itF ps n s = some s') : ∃ c', goS ps n s c = some (s', c') := by
  have k := go_it n s c (ps := ps)
  rw [h] at k
  cases hg : goS ps n s c with
  | none => rw [hg] at k; cases k
  | some x =>
    obtain ⟨a, c'⟩ := x
    rw [hg] at k
    injection k with k
    exact ⟨c', by rw [show a = s' from k]⟩
theorem go_none {n c : Nat} (h : itF ps n s = none) : goS ps n s c = none := by
  have k := go_it n s c (ps := ps)
  rw [h] at k
  cases hg : goS ps n s c with
  | none => rfl
  | some x => rw [hg] at k; cases k
/-- How often, and from the start. -/
theorem re_snoc : ∀ (n : Nat) (s0 : Sc) {s s' : Sc}, reS ps n s0 = some s → doneS ps s = false → onceS ps s = some s' → reS ps (n + 1) s0 = some s'
  | 0, s0, s, s', h, hd, ho => by
    have h : some s0 = some s := h
    injection h with h
    subst h
    unfold reS
    rw [if_neg (by rw [hd]; decide), ho]
    rfl
  | n + 1, s0, s, s', h, hd, ho => by
    unfold reS at h
    unfold reS
    cases hd0 : doneS ps s0 with
    | true => rw [hd0, if_pos rfl] at h; cases h
    | false =>
      rw [hd0, if_neg (by decide)] at h
      rw [if_neg (by decide)]
      cases ho0 : onceS ps s0 with
      | none => rw [ho0] at h; cases h
      | some s1 =>
        rw [ho0] at h
        exact re_snoc n s1 h hd ho
theorem go_re {s0 : Sc} : ∀ (n : Nat) (s : Sc) (c : Nat) {s' : Sc} {c' : Nat}, reS ps c s0 = some s → goS ps n s c = some (s', c') → reS ps c' s0 = some s'
  | 0, s, c, s', c', h, e => by
    have e : some (s, c) = some (s', c') := e
    injection e with e
    injection e with e1 e2
    subst e1 e2
    exact h
  | n + 1, s, c, s', c', h, e => by
    unfold goS at e
    cases hd : doneS ps s with
    | true =>
      rw [hd, if_pos rfl] at e
      injection e with e
      injection e with e1 e2
      subst e1 e2
      exact h
    | false =>
      rw [hd, if_neg (by decide)] at e
      cases ho : onceS ps s with
      | none => rw [ho] at e; cases e
      | some s1 =>
        rw [ho] at e
        exact go_re n s1 (c + 1) (re_snoc c s0 h hd ho) e
theorem go_meas (H : Heap ws l b t) (hps : ∀ p ∈ ps, p = 0 ∨ (1 ≤ p ∧ p - 1 ∈ l)) : ∀ (n : Nat) (s : Sc) (c : Nat) {s' : Sc} {c' : Nat}, SI ws l b t m ps s → RunR m ps R s → goS ps n s c = some (s', c') → SI ws l b t m ps s' ∧ RunR m ps R s' ∧ c' + measS m ps s' ≤ c + measS m ps s
  | 0, s, c, s', c', h, r, e => by
    have e : some (s, c) = some (s', c') := e
    injection e with e
    injection e with e1 e2
    subst e1 e2
    exact ⟨h, r, Nat.le_refl _⟩
  | n + 1, s, c, s', c', h, r, e => by
    unfold goS at e
    cases hd : doneS ps s with
    | true =>
      rw [hd, if_pos rfl] at e
      injection e with e
      injection e with e1 e2
      subst e1 e2
      exact ⟨h, r, Nat.le_refl _⟩
    | false =>
      rw [hd, if_neg (by decide)] at e
      cases ho : onceS ps s with
      | none => rw [ho] at e; cases e
      | some s1 =>
        rw [ho] at e
        obtain ⟨h1, h2⟩ := h.once H hps hd ho
        obtain ⟨k1, k2, k3⟩ := go_meas H hps n s1 (c + 1) h1 (r.next H hps h hd ho) e
        exact ⟨k1, k2, by omega⟩
/-- What does not fit by steps does not fit at once. -/
theorem RunR.nofit (H : Heap ws l b t) (h : SI ws l b t m ps s) (hd : doneS ps s = false) (he : onceS ps s = none) (r : RunR m ps R s) : R = none := by
  obtain ⟨ys, h1, h2⟩ := h.ord
  have htm : s.c.top ≤ m := by have := h.inv.2.1.2.2; rw [h.len] at this; exact this
  by_cases hq : s.qs.length < ps.length
  · unfold onceS at he
    rw [if_pos hq] at he
    cases hr : takeP s.c (ps.getD s.qs.length 0) with
    | some z => rw [hr] at he; cases he
    | none =>
      rcases r with ⟨r1, r2, r3⟩ | ⟨r1, _⟩
      · rw [List.drop_eq_getElem_cons hq, contC_cons] at r3
        have e : ps.getD s.qs.length 0 = ps[s.qs.length] := by rw [List.getD_eq_getElem?_getD, List.getElem?_eq_getElem hq]; rfl
        rw [e] at hr
        rw [hr] at r3
        exact r3.symm
      · omega
  · have hne : s.sc < s.c.top := by have := done_no h.qs hd hq; have := h2.le; omega
    obtain ⟨f, r1, r2⟩ := r.scan (by have := h.qs; omega)
    obtain ⟨f', rfl⟩ : ∃ f', f = f' + 1 := ⟨f - 1, by omega⟩
    have hgo : goC (f' + 1) s.sc s.c = match scanC s.sc (P0 (s.c.T.getD s.sc 0#64)) 0 s.c with
        | none => none
        | some z => goC f' (s.sc + szX (z.T.getD s.sc 0#64)) z := by
      show (if s.sc < s.c.top then _ else _) = _
      rw [if_pos hne]
      cases scanC s.sc (P0 (s.c.T.getD s.sc 0#64)) 0 s.c <;> rfl
    rw [hgo] at r2
    unfold onceS at he
    rw [if_neg hq] at he
    cases hr : scanC s.sc (P0 (s.c.T.getD s.sc 0#64)) 0 s.c with
    | some d => rw [hr] at he; cases he
    | none =>
      rw [hr] at r2
      exact r2.symm
theorem it_run (H : Heap ws l b t) (hps : ∀ p ∈ ps, p = 0 ∨ (1 ≤ p ∧ p - 1 ∈ l)) : ∀ (n : Nat) (s : Sc), SI ws l b t m ps s → RunR m ps R s → itF ps n s = none → R = none
  | 0, s, h, r, e => by cases e
  | n + 1, s, h, r, e => by
    unfold itF at e
    cases hd : doneS ps s with
    | true => rw [hd, if_pos rfl] at e; cases e
    | false =>
      rw [hd, if_neg (by decide)] at e
      cases ho : onceS ps s with
      | none => exact RunR.nofit H h hd ho r
      | some s1 =>
        rw [ho] at e
        exact it_run H hps n s1 (h.once H hps hd ho).1 (r.next H hps h hd ho) e
end
theorem st_back (c : Nat) (hc : c < 18446744073709551616) : stN (uintL (BitVec.ofNat 64 c)) = c ∧ (∀ ps ws m, stR ps ws m (uintL (BitVec.ofNat 64 c)) = reS ps c (NewS ws m)) := by
  have h := dec_uint_back (BitVec.ofNat 64 c) []
  rw [List.append_nil] at h
  have e : (BitVec.ofNat 64 c).toNat = c := by rw [BitVec.toNat_ofNat, Nat.mod_eq_of_lt (by omega)]
  refine ⟨by unfold stN; rw [h]; exact e, fun ps ws m => ?_⟩
  unfold stR
  rw [h]
  simp only [e]
end Go.Proofs.Ytbanbpphadgoiaa
