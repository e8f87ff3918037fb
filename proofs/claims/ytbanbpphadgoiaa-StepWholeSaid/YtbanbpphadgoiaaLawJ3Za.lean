/- The law StepWhole of layer 22 returns true for every argument. No conditions. -/
import Derived.Test.YtbanbpphadgoiaaZa6
namespace Go.Proofs.Ytbanbpphadgoiaa
set_option linter.unusedVariables false
set_option linter.unusedSimpArgs false
open Go.RowKit Go.Maps
theorem whole_done {ws : List (BitVec 64)} {l : List Nat} {b t : Nat} {roots : List Int} {B Q : Nat} {S : Nat → Prop} {f : CoF} {xw : Value} {s : Sc} {c : Nat} {W : World} (L : Lw ws l b t roots) (p : ColL ws l b t roots W B S Q f xw s c) {qs : List Nat} {d : Cy} (hR : RL ws roots = some (qs, d)) {l' : List Nat} (ho : objF d.T d.top (d.top + 1) 0 = some l') (hc : l'.length + roots.length ≤ c) : doneS (roots.map rootP) s = true := by
  cases hd : doneS (roots.map rootP) s with
  | true => rfl
  | false =>
    obtain ⟨s', c', _, h1, h2, _, h4⟩ := law_end L.heap L.rts.ps L.cap p.li
    obtain ⟨l2, k1, k2⟩ := law_count L.heap h1 h2
    have e := h1.run.end_ h2
    rw [hR] at e
    injection e with e
    injection e with e1 e2
    rw [← e2, ho] at k1
    injection k1 with k1
    subst k1
    rw [List.length_map] at k2
    have := h4 hd
    omega
set_option maxHeartbeats 4000000
set_option maxRecDepth 100000
theorem wh_r (Q : Exit → Act → World → Prop) (a0 : Act) (w : World) (N c1 c2 u v : Nat) (A1 A2 : Option Addr) (tp : Int) (hu : u < w.heap.size) (hv : v < w.heap.size) (cu : w.cell? ⟨u, 2, none⟩ = some (.int .i64 tp)) (cv : w.cell? ⟨v, 2, none⟩ = some (.int .i64 tp)) (hp : Hid (∀ W, Below w.heap.size w W → Calls Try.prog 23 #[.slice A1 N c1, .slice A2 N c2] W (RetP (.bool true) W))) (hsz : a0.tmps.size = 149) (sl12 : a0.tmps.getD 12 undef = .pointer (some ⟨v, 0, none⟩)) (sl13 : a0.tmps.getD 13 undef = .slice A2 N c2) (sl23 : a0.tmps.getD 23 undef = .pointer (some ⟨u, 0, none⟩)) (sl24 : a0.tmps.getD 24 undef = .slice A1 N c1) (sl25 : a0.tmps.getD 25 undef = .int .i64 0)
    (fin : ∀ (vals : Nat → Value) (w1 : World), Below w.heap.size w w1 → (IsV (.bool false)) (vals 18) w1 → Q .normal (putD vals [101, 102, 103, 104, 105, 106, 107, 108, 109, 110, 111, 112, 113, 114, 115, 116, 117, 118, 119] 0 a0) w1) :
    (Code.region 21 (regIn Try.f4 21) true).wp Try.prog Q a0 w := by
  refine region_by (G := fun w w1 => Below w.heap.size w w1) [IsV (.int .i64 0),
    IsV (.bool false),
    IsV (.bool false),
    IsV (.slice A1 N c1),
    IsV (.slice A2 N c2),
    IsV (.bool true),
    IsV (.bool false),
    IsV (.bool false),
    IsV (.bool false),
    IsV (.pointer (some ⟨u, 0, none⟩)),
    IsV (.pointer (some ⟨u, 0, none⟩)),
    IsV (.pointer (some ⟨u, 2, none⟩)),
    IsV (.int .i64 tp),
    IsV (.pointer (some ⟨v, 0, none⟩)),
    IsV (.pointer (some ⟨v, 0, none⟩)),
    IsV (.pointer (some ⟨v, 2, none⟩)),
    IsV (.int .i64 tp),
    IsV (.bool false),
    IsV (.bool false)]
    [101, 102, 103, 104, 105, 106, 107, 108, 109, 110, 111, 112, 113, 114, 115, 116, 117, 118, 119] (by kernel_rfl) (Gw.drew _) Gw.trans (by rw [hsz]; kernel_rfl) (by kernel_rfl) ?_ ?_ ?_
  · intro f hf
    simp only [List.mem_cons, List.not_mem_nil, or_false] at hf
    rcases hf with rfl | rfl | rfl | rfl | rfl | rfl | rfl | rfl | rfl | rfl | rfl | rfl | rfl | rfl | rfl | rfl | rfl | rfl | rfl <;> intro v a b h g <;> first | exact IsV.mono h
  · refine ⟨?_, ?_, ?_, ?_, ?_, ?_, ?_, ?_, ?_, ?_, ?_, ?_, ?_, ?_, ?_, ?_, ?_, ?_, ?_, trivial⟩
    · exact owes_mv 25 (by kernel_rfl) (by kernel_rfl) (by kernel_rfl) sl25 (fun _ => rfl)
    · refine owes_v (Go.Op.binOp Go.BinOp.neq 3 (Go.Operand.tmp 101) (Go.Operand.const (Go.Value.int Go.IntKind.i64 0)) 3) 4 [0] (by kernel_rfl) (by kernel_rfl) (by kernel_rfl) rfl fun vals w1 ρ hG hF hρ hcst hfun => ?_
      have e101 : ρ (.tmp 101) = .int .i64 0 := ((hρ 101).trans (slotJ [0] (by rw [hsz]; decide) (by kernel_rfl))).trans (hF 0 (by decide))
      clear hρ hF hfun sl12 sl13 sl23 sl24 sl25 fin
      exact opv_val (by go_simp <;> rfl) ⟨gw_self _, rfl⟩
    · exact owes_mvj 1 102 (by kernel_rfl) (by kernel_rfl) (by kernel_rfl) (by kernel_rfl) (by rw [hsz]; decide) (fun v w h => h)
    · refine owes_vt 2 false (Go.Op.move (Go.Operand.tmp 24)) 23 [] (by kernel_rfl) (by kernel_rfl) (by kernel_rfl) (fun _ _ h => h) (by rw [hsz]; kernel_rfl) (by kernel_rfl) rfl fun vals w1 ρ hG hF hρ hcst hfun => ?_
      have e24 : ρ (.tmp 24) = .slice A1 N c1 := ((hρ 24).trans (slotO [] (by kernel_rfl))).trans sl24
      clear hρ hF hcst hfun sl12 sl13 sl23 sl24 sl25 fin
      exact opv_val (by go_simp <;> rfl) ⟨gw_self _, rfl⟩
    · refine owes_vt 2 false (Go.Op.move (Go.Operand.tmp 13)) 23 [] (by kernel_rfl) (by kernel_rfl) (by kernel_rfl) (fun _ _ h => h) (by rw [hsz]; kernel_rfl) (by kernel_rfl) rfl fun vals w1 ρ hG hF hρ hcst hfun => ?_
      have e13 : ρ (.tmp 13) = .slice A2 N c2 := ((hρ 13).trans (slotO [] (by kernel_rfl))).trans sl13
      clear hρ hF hcst hfun sl12 sl13 sl23 sl24 sl25 fin
      exact opv_val (by go_simp <;> rfl) ⟨gw_self _, rfl⟩
    · refine owes_vt 2 false (Go.Op.call { callee := Go.Callee.value (Go.Operand.func 23), args := #[Go.Operand.tmp 104, Go.Operand.tmp 105], argTypes := #[23, 23] }) 4 [3, 4] (by kernel_rfl) (by kernel_rfl) (by kernel_rfl) (fun _ _ h => h) (by rw [hsz]; kernel_rfl) (by kernel_rfl) rfl fun vals w1 ρ hG hF hρ hcst hfun => ?_
      have e104 : ρ (.tmp 104) = .slice A1 N c1 := ((hρ 104).trans (slotJ [3, 4] (by rw [hsz]; decide) (by kernel_rfl))).trans (hF 3 (by decide))
      have e105 : ρ (.tmp 105) = .slice A2 N c2 := ((hρ 105).trans (slotJ [3, 4] (by rw [hsz]; decide) (by kernel_rfl))).trans (hF 4 (by decide))
      clear hρ hF hcst sl12 sl13 sl23 sl24 sl25 fin
      exact opv_enter (by go_simp <;> rfl) (of_ret (hp.out w1 hG))
    · refine owes_vt 2 false (Go.Op.unOp Go.UnOp.not 4 (Go.Operand.tmp 106)) 4 [5] (by kernel_rfl) (by kernel_rfl) (by kernel_rfl) (fun _ _ h => h) (by rw [hsz]; kernel_rfl) (by kernel_rfl) rfl fun vals w1 ρ hG hF hρ hcst hfun => ?_
      have e106 : ρ (.tmp 106) = .bool true := ((hρ 106).trans (slotJ [5] (by rw [hsz]; decide) (by kernel_rfl))).trans (hF 5 (by decide))
      clear hρ hF hcst hfun sl12 sl13 sl23 sl24 sl25 fin
      exact opv_val (by go_simp <;> rfl) ⟨gw_self _, rfl⟩
    · refine owes_v (Go.Op.pick (Go.Operand.tmp 103) (Go.Operand.const (Go.Value.bool true)) (Go.Operand.tmp 107)) 4 [2, 6] (by kernel_rfl) (by kernel_rfl) (by kernel_rfl) rfl fun vals w1 ρ hG hF hρ hcst hfun => ?_
      have e103 : ρ (.tmp 103) = .bool false := ((hρ 103).trans (slotJ [2, 6] (by rw [hsz]; decide) (by kernel_rfl))).trans (hF 2 (by decide))
      have e107 : ρ (.tmp 107) = .bool false := ((hρ 107).trans (slotJ [2, 6] (by rw [hsz]; decide) (by kernel_rfl))).trans (hF 6 (by decide))
      clear hρ hF hfun sl12 sl13 sl23 sl24 sl25 fin
      exact opv_val (by go_simp <;> rfl) ⟨gw_self _, rfl⟩
    · exact owes_mvj 7 108 (by kernel_rfl) (by kernel_rfl) (by kernel_rfl) (by kernel_rfl) (by rw [hsz]; decide) (fun v w h => h)
    · refine owes_vt 8 false (Go.Op.move (Go.Operand.tmp 23)) 26 [] (by kernel_rfl) (by kernel_rfl) (by kernel_rfl) (fun _ _ h => h) (by rw [hsz]; kernel_rfl) (by kernel_rfl) rfl fun vals w1 ρ hG hF hρ hcst hfun => ?_
      have e23 : ρ (.tmp 23) = .pointer (some ⟨u, 0, none⟩) := ((hρ 23).trans (slotO [] (by kernel_rfl))).trans sl23
      clear hρ hF hcst hfun sl12 sl13 sl23 sl24 sl25 fin
      exact opv_val (by go_simp <;> rfl) ⟨gw_self _, rfl⟩
    · refine owes_vt 8 false (Go.Op.nilCheck (Go.Operand.tmp 110)) 0 [9] (by kernel_rfl) (by kernel_rfl) (by kernel_rfl) (fun _ _ h => h) (by rw [hsz]; kernel_rfl) (by kernel_rfl) rfl fun vals w1 ρ hG hF hρ hcst hfun => ?_
      have e110 : ρ (.tmp 110) = .pointer (some ⟨u, 0, none⟩) := ((hρ 110).trans (slotJ [9] (by rw [hsz]; decide) (by kernel_rfl))).trans (hF 9 (by decide))
      clear hρ hF hcst hfun sl12 sl13 sl23 sl24 sl25 fin
      exact opv_val (by go_simp <;> rfl) ⟨gw_self _, rfl⟩
    · refine owes_vt 8 false (Go.Op.fieldAddr 61 (Go.Operand.tmp 111) 2) 0 [10] (by kernel_rfl) (by kernel_rfl) (by kernel_rfl) (fun _ _ h => h) (by rw [hsz]; kernel_rfl) (by kernel_rfl) rfl fun vals w1 ρ hG hF hρ hcst hfun => ?_
      have e111 : ρ (.tmp 111) = .pointer (some ⟨u, 0, none⟩) := ((hρ 111).trans (slotJ [10] (by rw [hsz]; decide) (by kernel_rfl))).trans (hF 10 (by decide))
      clear hρ hF hcst hfun sl12 sl13 sl23 sl24 sl25 fin
      exact opv_val (by go_simp <;> rfl) ⟨gw_self _, rfl⟩
    · refine owes_vt 8 false (Go.Op.load 3 (Go.Operand.tmp 112)) 3 [11] (by kernel_rfl) (by kernel_rfl) (by kernel_rfl) (fun _ _ h => h) (by rw [hsz]; kernel_rfl) (by kernel_rfl) rfl fun vals w1 ρ hG hF hρ hcst hfun => ?_
      have e112 : ρ (.tmp 112) = .pointer (some ⟨u, 2, none⟩) := ((hρ 112).trans (slotJ [11] (by rw [hsz]; decide) (by kernel_rfl))).trans (hF 11 (by decide))
      have k := (hG.cell (p := ⟨u, 2, none⟩) hu).trans cu
      clear hρ hF hcst hfun sl12 sl13 sl23 sl24 sl25 fin
      exact opv_val (by go_simp <;> rfl) ⟨gw_self _, rfl⟩
    · refine owes_vt 8 false (Go.Op.move (Go.Operand.tmp 12)) 26 [] (by kernel_rfl) (by kernel_rfl) (by kernel_rfl) (fun _ _ h => h) (by rw [hsz]; kernel_rfl) (by kernel_rfl) rfl fun vals w1 ρ hG hF hρ hcst hfun => ?_
      have e12 : ρ (.tmp 12) = .pointer (some ⟨v, 0, none⟩) := ((hρ 12).trans (slotO [] (by kernel_rfl))).trans sl12
      clear hρ hF hcst hfun sl12 sl13 sl23 sl24 sl25 fin
      exact opv_val (by go_simp <;> rfl) ⟨gw_self _, rfl⟩
    · refine owes_vt 8 false (Go.Op.nilCheck (Go.Operand.tmp 114)) 0 [13] (by kernel_rfl) (by kernel_rfl) (by kernel_rfl) (fun _ _ h => h) (by rw [hsz]; kernel_rfl) (by kernel_rfl) rfl fun vals w1 ρ hG hF hρ hcst hfun => ?_
      have e114 : ρ (.tmp 114) = .pointer (some ⟨v, 0, none⟩) := ((hρ 114).trans (slotJ [13] (by rw [hsz]; decide) (by kernel_rfl))).trans (hF 13 (by decide))
      clear hρ hF hcst hfun sl12 sl13 sl23 sl24 sl25 fin
      exact opv_val (by go_simp <;> rfl) ⟨gw_self _, rfl⟩
    · refine owes_vt 8 false (Go.Op.fieldAddr 61 (Go.Operand.tmp 115) 2) 0 [14] (by kernel_rfl) (by kernel_rfl) (by kernel_rfl) (fun _ _ h => h) (by rw [hsz]; kernel_rfl) (by kernel_rfl) rfl fun vals w1 ρ hG hF hρ hcst hfun => ?_
      have e115 : ρ (.tmp 115) = .pointer (some ⟨v, 0, none⟩) := ((hρ 115).trans (slotJ [14] (by rw [hsz]; decide) (by kernel_rfl))).trans (hF 14 (by decide))
      clear hρ hF hcst hfun sl12 sl13 sl23 sl24 sl25 fin
      exact opv_val (by go_simp <;> rfl) ⟨gw_self _, rfl⟩
    · refine owes_vt 8 false (Go.Op.load 3 (Go.Operand.tmp 116)) 3 [15] (by kernel_rfl) (by kernel_rfl) (by kernel_rfl) (fun _ _ h => h) (by rw [hsz]; kernel_rfl) (by kernel_rfl) rfl fun vals w1 ρ hG hF hρ hcst hfun => ?_
      have e116 : ρ (.tmp 116) = .pointer (some ⟨v, 2, none⟩) := ((hρ 116).trans (slotJ [15] (by rw [hsz]; decide) (by kernel_rfl))).trans (hF 15 (by decide))
      have k := (hG.cell (p := ⟨v, 2, none⟩) hv).trans cv
      clear hρ hF hcst hfun sl12 sl13 sl23 sl24 sl25 fin
      exact opv_val (by go_simp <;> rfl) ⟨gw_self _, rfl⟩
    · refine owes_vt 8 false (Go.Op.binOp Go.BinOp.neq 3 (Go.Operand.tmp 113) (Go.Operand.tmp 117) 3) 4 [12, 16] (by kernel_rfl) (by kernel_rfl) (by kernel_rfl) (fun _ _ h => h) (by rw [hsz]; kernel_rfl) (by kernel_rfl) rfl fun vals w1 ρ hG hF hρ hcst hfun => ?_
      have e113 : ρ (.tmp 113) = .int .i64 tp := ((hρ 113).trans (slotJ [12, 16] (by rw [hsz]; decide) (by kernel_rfl))).trans (hF 12 (by decide))
      have e117 : ρ (.tmp 117) = .int .i64 tp := ((hρ 117).trans (slotJ [12, 16] (by rw [hsz]; decide) (by kernel_rfl))).trans (hF 16 (by decide))
      clear hρ hF hcst hfun sl12 sl13 sl23 sl24 sl25 fin
      exact opv_val (by go_simp <;> rfl) ⟨gw_self _, rfl⟩
    · refine owes_v (Go.Op.pick (Go.Operand.tmp 109) (Go.Operand.const (Go.Value.bool true)) (Go.Operand.tmp 118)) 4 [8, 17] (by kernel_rfl) (by kernel_rfl) (by kernel_rfl) rfl fun vals w1 ρ hG hF hρ hcst hfun => ?_
      have e109 : ρ (.tmp 109) = .bool false := ((hρ 109).trans (slotJ [8, 17] (by rw [hsz]; decide) (by kernel_rfl))).trans (hF 8 (by decide))
      have e118 : ρ (.tmp 118) = .bool false := ((hρ 118).trans (slotJ [8, 17] (by rw [hsz]; decide) (by kernel_rfl))).trans (hF 17 (by decide))
      clear hρ hF hfun sl12 sl13 sl23 sl24 sl25 fin
      exact opv_val (by go_simp <;> rfl) ⟨gw_self _, rfl⟩
  · intro vals w1 hG hF
    exact fin vals w1 hG (hF 18 (by decide +kernel))
def WhS (roots : List Int) (s : Sc) (P c : Nat) : Prop := doneS (roots.map rootP) s = true ∨ c = P
theorem whole_walk (w : World) (A : Option Addr) (ws : List (BitVec 64)) (c : Nat) (_g : ws.length ≤ c) (_m : c ≤ maxLen) (hr : Rd u64v w w.heap.size A ws) (b : Int) (_w1 : (Lit.int .i64 b).wf = true) (t : Int) (_w2 : (Lit.int .i64 t).wf = true) (A2 : Option Addr) (roots : List Int) (c2 : Nat) (_g2 : roots.length ≤ c2) (_m2 : c2 ≤ maxLen) (hr2 : Rd inV w w.heap.size A2 roots ∧ ∀ x ∈ roots, (Lit.int .i64 x).wf = true) (n : Int) (w3 : (Lit.int .u8 n).wf = true) :
    Calls Try.prog 4 #[.slice A ws.length c, .int .i64 b, .int .i64 t, .slice A2 roots.length c2, .int .u8 n] w (RetP (.bool true) w) := by
  have hn : 0 ≤ n ∧ n ≤ 255 := by simp [Lit.wf, IntKind.min, IntKind.max, IntKind.signed, IntKind.bits] at w3; omega
  have HK := Lib.hid (known22_c w)
  have HR := Lib.hid hr
  have HR2 := Lib.hid (show Rd zV w w.heap.size A2 roots ∧ ∀ x ∈ roots, kW x from hr2)
  obtain ⟨N, hN⟩ : ∃ N, N = ws.length := ⟨_, rfl⟩
  obtain ⟨M, hM⟩ : ∃ N, N = roots.length := ⟨_, rfl⟩
  have hNm : (N : Int) ≤ 9223372036854775807 := by have h1 := _g; have h2 := _m; simp [maxLen] at h2; omega
  have hMm : (M : Int) ≤ 9223372036854775807 := by have h1 := _g2; have h2 := _m2; simp [maxLen] at h2; omega
  clear _g _m hr _w1 _w2 _g2 _m2 hr2 w3
  by_cases hl : 250 < N ∨ 30 < M
  · rw [← hN, ← hM]
    clear hN hM hn
    have t1 : ¬ ((N : Int) ≤ 250 ∧ (M : Int) ≤ 30) := by omega
    go_enter Try.func4, Try.ntmps4
    go_wp2_with fail
    refine Calls.mono HK.out ?_
    rintro r w1 ⟨rfl, b1⟩
    have HB1 := Lib.hid b1
    clear b1
    by_cases q1 : (250 : Int) < (N : Int)
    · go_wp2_with fail
      go_ret
      exact ⟨rfl, HB1.out⟩
    · have q2 : (30 : Int) < (M : Int) := by omega
      go_wp2_with fail
      go_ret
      exact ⟨rfl, HB1.out⟩
  have q1 : ¬ (250 : Int) < (N : Int) := by omega
  have q2 : ¬ (30 : Int) < (M : Int) := by omega
  obtain ⟨R, hRr⟩ : ∃ R, R = n.toNat % 10 := ⟨_, rfl⟩
  have m1 : n % 10 = (R : Int) := by omega
  have m2 : n.tmod 10 = (R : Int) := by rw [Int.tmod_eq_emod_of_nonneg hn.1]; exact m1
  have m3 : (R : Int) < 10 := by omega
  have m0 : (0 : Int) ≤ (R : Int) := by omega
  obtain ⟨K, hK⟩ : ∃ K, K = 1 + R := ⟨_, rfl⟩
  have m4 : (1 : Int) + (R : Int) = (K : Int) := by omega
  have HKk := Lib.hid (show 1 ≤ K ∧ K ≤ 10 by omega)
  have HTo := Lib.hid (fun W hr => to_c W A ws c hr (by omega) b t (ws.length : Int))
  have HCp := Lib.hid (fun W B s g v b t e (p : SpAt W B s g v ws b t e) l ho (hr : Rd zV W W.heap.size A2 roots) => lcopy_c W B s g v ws b t e p (by omega) l ho A2 roots c2 hr (by omega) HR2.out.2)
  have HNw := Lib.hid (fun W B s g v b t e (p : SpAt W B s g v ws b t e) l ho (hr : Rd zV W W.heap.size A2 roots) => lnew_c W B s g v ws b t e p (by omega) l ho A2 roots c2 hr (by omega) HR2.out.2)
  have HN := Lib.hid (And.intro hN hM)
  rw [← hN] at HTo ⊢
  rw [← hM] at HNw HCp ⊢
  clear hN hM hl hNm hMm hRr hK
  go_enter Try.func4, Try.ntmps4
  go_wp2_with fail
  refine Calls.mono HK.out ?_
  rintro r w1 ⟨rfl, b1⟩
  have HB1 := Lib.hid b1
  clear b1
  go_wp2_with fail
  refine Calls.mono (HTo.out w1 ((HR.out.below HB1.out).more HB1.out.size)) ?_
  rintro r w2 (⟨rfl, b2⟩ | ⟨B, T, E, s, g, v, l, rfl, rfl, hE, hBT, hTE, hEl, hob, rfl, hsp, b2⟩)
  · have HB2 := Lib.hid (HB1.out.trans (b2.mono HB1.out.size))
    clear b2
    go_wp2_with fail
    go_ret
    exact ⟨rfl, HB2.out⟩
  · have HB2 := Lib.hid (HB1.out.trans (b2.mono HB1.out.size))
    have HCp2 := Lib.hid (HCp.out w2 w1.heap.size s g v B T E hsp l hob ((HR2.out.1.below HB2.out).more HB2.out.size))
    have HNw2 := Lib.hid (fun W (hb : Below w2.heap.size w2 W) => HNw.out W w1.heap.size s g v B T E (hsp.below hb) l hob ((HR2.out.1.below (HB2.out.trans (hb.mono HB2.out.size))).more (HB2.out.trans (hb.mono HB2.out.size)).size))
    clear b2 hsp hE hBT hTE hEl hob HNw HTo HK HB1 HCp
    go_wp2_with fail
    refine Calls.mono HCp2.out ?_
    rintro r w3 (⟨er, hne, here, rfl, b3⟩ | ⟨L, hE0, qs, d, st, gt, vt, q, hR, rfl, hst, hrow, b3⟩)
    · have HB3 := Lib.hid (HB2.out.trans (b3.mono HB2.out.size))
      have HNw3 := Lib.hid (HNw2.out w3 b3)
      have Hre := Lib.hid here
      clear b3 here
      go_wp2_with fail
      refine Calls.mono HNw3.out ?_
      rintro r w4 (⟨er2, hne2, here2, rfl, b4⟩ | ⟨_, hE0, _⟩)
      · have HB4 := Lib.hid (HB3.out.trans (b4.mono HB3.out.size))
        have he : er2 = er := here2.trans Hre.out.symm
        clear b4 here2 Hre
        subst he
        go_wp2_with fail
        go_ret
        exact ⟨by simp, HB4.out⟩
      · exact absurd (Hre.out.trans hE0) hne
    · have HB3 := Lib.hid (HB2.out.trans (b3.mono HB2.out.size))
      have HNw3 := Lib.hid (HNw2.out w3 b3)
      have HL := Lib.hid L
      have HRd := Lib.hid hR
      have HT3 := Lib.hid (And.intro hst hrow)
      clear b3 L hR hst hrow HNw2 HCp2
      rw [← HN.out.2]
      go_wp2_with fail
      refine Calls.mono HNw3.out ?_
      rintro r w4 (⟨er2, hne2, here2, rfl, b4⟩ | ⟨_, _, S, Q, f, xw, rfl, pc, b4⟩)
      · exact absurd (here2.trans hE0) hne2
      · have H4 := Lib.hid (And.intro pc b4)
        clear pc b4 HNw3 hE0
        obtain ⟨qs2, d2, hR2, hT2, htp2, hq2, l', hl', hl2⟩ := rl_some HL.out
        rw [HRd.out] at hR2
        injection hR2 with hR2
        injection hR2 with e1 e2
        subst e1
        subst e2
        have HD := Lib.hid (And.intro hT2 (And.intro htp2 (And.intro hq2 (And.intro hl' hl2))))
        have HOb := Lib.hid (fun W (hb : Below w3.heap.size w3 W) => objects_c W w2.heap.size st gt vt d.T 0 d.top 300 (HT3.out.1.below hb) (by omega))
        rw [hl'] at HOb
        have HOb4 := Lib.hid (show Calls Try.prog 25 #[.pointer (some ⟨st, 0, none⟩)] w4 (MkEP iN 3 l' 0 w4) from HOb.out w4 H4.out.2)
        clear hT2 htp2 hq2 hl' hl2 HOb
        go_wp2_with fail
        refine Calls.mono HOb4.out ?_
        rintro r w5 hmk
        obtain ⟨LA, lc, rfl, _, hol, hb5⟩ := hmk
        obtain ⟨LL, hLL⟩ : ∃ LL, LL = l'.length := ⟨_, rfl⟩
        rw [← hLL]
        obtain ⟨B4, hB4⟩ : ∃ B, B = w3.heap.size := ⟨_, rfl⟩
        have hb35 : Below w3.heap.size w3 w5 := H4.out.2.trans (hb5.mono H4.out.2.size)
        have hpc := H4.out.1
        rw [← hB4] at hb35 hpc
        have HS5 := Lib.hid (show ∃ (s' : Sc) (c' : Nat) (S' : Nat → Prop) (xw' : Value), ColL ws l B T roots w5 B4 S' Q f xw' s' c' ∧ Below B4 w3 w5 ∧ WhS roots s' (0 * K) c' from ⟨_, _, _, _, hpc.below hb5, hb35, .inr (by omega)⟩)
        have HB4 := Lib.hid hB4
        have HLl := Lib.hid hLL
        have tL : (LL : Int) + (M : Int) ≤ 330 := by have h1 := HD.out.2.2.2.2; have h2 := HN.out.2; omega
        have tM : (0 : Int) ≤ (M : Int) := by omega
        have tl0 : (0 : Int) ≤ (LL : Int) := by omega
        have tK : (K : Int) ≤ 10 ∧ (1 : Int) ≤ (K : Int) := by have := HKk.out; omega
        clear hol hb5 hb35 hpc hB4 hLL HOb4
        go_wp2_with fail
        go_loopw [20] (fun x W => ∃ i : Nat, x = .int .i64 i ∧ i ≤ 331 ∧ Hid (∃ (s' : Sc) (c' : Nat) (S' : Nat → Prop) (xw' : Value), ColL ws l B T roots W B4 S' Q f xw' s' c' ∧ Below B4 w3 W ∧ WhS roots s' (i * K) c')) (fun x _ => 400 - (Go.RowKit.intOf x).toNat)
        case atStart => exact ⟨0, rfl, by decide, HS5⟩
        case round =>
          obtain ⟨i, rfl, hi, hS⟩ := hrel
          clear HS5
          obtain ⟨s', c', S', x', p', hb, hc⟩ := hS.out
          have HE := Lib.hid (And.intro p' (And.intro hb hc))
          clear p' hb hS hc
          obtain ⟨P, hP⟩ : ∃ P, P = i * K := ⟨_, rfl⟩
          have e1 : (i : Int) * (K : Int) = (P : Int) := by rw [hP]; simp
          have hPi : i ≤ P := by rw [hP]; exact Nat.le_mul_of_pos_right i (by omega)
          have hP4 : P ≤ 3310 := by rw [hP]; exact Nat.le_trans (Nat.mul_le_mul hi (show K ≤ 10 by omega)) (by decide)
          have hP5 : (P : Int) ≤ 3310 := by omega
          have HPp := Lib.hid hP
          clear hP
          by_cases hlt : (P : Int) < (M : Int) + (LL : Int)
          · have hi2 : i + 1 ≤ 331 := by omega
            clear hPi hP4
            go_wp2_with fail
            refine Calls.mono (lstep_c wr HL.out HE.out.1 (K : Int) (by omega)) ?_
            rintro r w8 ⟨s8, c8, S8, x8, rfl, p8, k8, n8, l8, e8, z8, _⟩
            have hle : B4 ≤ wr.heap.size := by have := HE.out.2.1.size; have := HB4.out; omega
            have H8 := Lib.hid (show ∃ (s' : Sc) (c' : Nat) (S' : Nat → Prop) (xw' : Value), ColL ws l B T roots w8 B4 S' Q f xw' s' c' ∧ Below B4 w3 w8 ∧ WhS roots s' ((i + 1) * K) c' from
              ⟨_, _, _, _, p8, HE.out.2.1.trans (k8.below hle (fun k hk => (HE.out.1.co.own k hk).1)), by
                rcases e8 with h | h
                · exact .inl h
                · rcases HE.out.2.2 with h2 | h2
                  · obtain ⟨g1, g2⟩ := z8 h2
                    rw [g1]
                    exact .inl h2
                  · refine .inr ?_
                    have h : c8 = c' + K := by rw [h]; simp
                    rw [h, h2, Nat.succ_mul]⟩)
            obtain ⟨bo, hbo⟩ : ∃ bo, bo = doneS (roots.map rootP) s8 := ⟨_, rfl⟩
            rw [← hbo]
            clear p8 k8 n8 l8 e8 z8 hle hbo
            go_wp2_with fail
            go_roundw
            case rel => first | exact ⟨i + 1, by go_num, hi2, H8⟩ | ((repeat apply Exists.intro); refine ⟨?_, rfl⟩; exact ⟨i + 1, by go_num, hi2, H8⟩)
            case measure => simp [Go.RowKit.intOf]; omega
          · have hd : doneS (roots.map rootP) s' = true := by
              rcases HE.out.2.2 with h | h
              · exact h
              · exact whole_done HL.out HE.out.1 HRd.out HD.out.2.2.2.1 (by rw [h, ← HPp.out, ← HN.out.2, ← HLl.out]; omega)
            have HRs := Lib.hid (lresult_c wr HL.out HE.out.1 hd HRd.out)
            rw [← HN.out.2] at HRs
            have HBr := Lib.hid (show Below B4 w3 wr from HE.out.2.1)
            have HT := Lib.hid (show SpAt wr w2.heap.size st gt vt d.T 0 d.top 300 ∧ Rd zV wr wr.heap.size (some ⟨q, 0, none⟩) (backZ qs) from by
              have hb : Below w3.heap.size w3 wr := by rw [← HB4.out]; exact HE.out.2.1
              exact ⟨HT3.out.1.below hb, (HT3.out.2.below hb).more hb.size⟩)
            clear hd hPi hP4 HE HPp
            go_wp2_with fail
            refine Calls.mono HRs.out ?_
            rintro r w8 ⟨su, gu, vu, A5, c5, rfl, hsu, hru, b8⟩
            have hT8 := HT.out.1.below b8
            obtain ⟨tp, htp⟩ : ∃ tp, tp = d.top := ⟨_, rfl⟩
            have cu := hsu.four.2.2.1
            have cv := hT8.four.2.2.1
            rw [← htp] at cu cv
            have hu := hsu.blk.lt
            have hv := hT8.blk.lt
            have HIn := Lib.hid (fun W (hb : Below w8.heap.size w8 W) => ints_z W A5 (some ⟨q, 0, none⟩) c5 M M (backZ qs) (by rw [HN.out.2, ← HD.out.2.2.1]; simp [backZ]) (by omega) ((hru.below hb).more hb.size) ((((HT.out.2.below b8).more b8.size).below hb).more hb.size))
            have H8 := Lib.hid (And.intro hsu (And.intro hT8 (HBr.out.trans (b8.mono (by have := HBr.out.size; have := HB4.out; omega)))))
            have HTp := Lib.hid htp
            have htp3 : (tp : Int) ≤ 300 := by have := HD.out.2.1; omega
            clear hT8 hsu hru b8 htp HRs
            go_wp2_with fail
            refine wh_r _ _ _ M c5 M su st A5 (some ⟨q, 0, none⟩) tp hu hv cu cv HIn rfl ?_ ?_ ?_ ?_ ?_ ?_
            · rfl
            · rfl
            · rfl
            · rfl
            · rfl
            intro vals w9 hG h119
            unfold IsV at h119
            simp only [putD, Act.put, List.setIfInBounds_toArray, List.set_cons_zero, List.set_cons_succ, h119]
            have H9 := Lib.hid hG
            have HBz := Lib.hid (Below.refl w9.heap.size w9)
            clear hG h119 cu cv hu hv
            go_wp2_with fail
            go_loopw [26] (fun x W => ∃ i : Nat, x = .int .i64 i ∧ i ≤ tp ∧ Hid (Below w9.heap.size w9 W)) (fun x _ => tp - (Go.RowKit.intOf x).toNat)
            case atStart => exact ⟨0, rfl, Nat.zero_le _, HBz⟩
            case round =>
              obtain ⟨j, rfl, hj, hS⟩ := hrel
              have hb : Below w8.heap.size w8 wr := H9.out.trans (hS.out.mono H9.out.size)
              have hu2 := H8.out.1.below hb
              have hv2 := H8.out.2.1.below hb
              obtain ⟨cu0, _, cu2, _⟩ := hu2.four
              obtain ⟨cv0, _, cv2, _⟩ := hv2.four
              rw [← HTp.out] at cv2
              by_cases hlt : (j : Int) < (tp : Int)
              · have hjl : j < d.T.length := by have := HD.out.1; omega
                have HG1 := Lib.hid (get_in wr w2.heap.size gt vt d.T j hjl (by have := HD.out.1; omega) hv2.mem)
                have HG2 := Lib.hid (get_in wr _ gu vu d.T j hjl (by have := HD.out.1; omega) hu2.mem)
                obtain ⟨xv, hxv⟩ : ∃ xv, xv = U64 d.T[j] := ⟨_, rfl⟩
                rw [← hxv] at HG1 HG2
                clear hxv hjl hb hu2 hv2
                go_wp2_with fail
                refine Calls.mono HG1.out ?_
                rintro r w10 ⟨rfl, hw10⟩
                subst hw10
                go_wp2_with fail
                refine Calls.mono HG2.out ?_
                rintro r w10 ⟨rfl, hw10⟩
                subst hw10
                go_wp2_with fail
                go_roundw
                case rel => first | exact ⟨j + 1, by go_num, by omega, hS⟩ | ((repeat apply Exists.intro); refine ⟨?_, rfl⟩; exact ⟨j + 1, by go_num, by omega, hS⟩)
                case measure => simp [Go.RowKit.intOf]; omega
              · clear hb hu2 hv2
                go_wp2_with fail
                go_ret
                have h1 := H8.out.2.2
                rw [HB4.out] at h1
                have h2 := HB3.out.trans (h1.mono HB3.out.size)
                have h3 := h2.trans (H9.out.mono h2.size)
                exact ⟨rfl, h3.trans (hS.out.mono h3.size)⟩
end Go.Proofs.Ytbanbpphadgoiaa
namespace Go.Proofs.Ytbanbpphadgoiaa.stepWhole
open Go.ChangeShapes Go.WideShapes Go.ChangeAt Go.RowKit
open Go.ChangeMaps (open_string shut_string)
set_option linter.unusedVariables false
set_option maxRecDepth 100000 in
theorem lifted (os : Os) (started : os.Started) (H : Type) (enc : TypeId × Value → H) :
    ReturnsInHanded {} Try.checked os 4 .any (Rows.stepWholeSpec.pre6 enc Try.prog Try.f4 Rows.stepWholeRow.domain false) (Rows.stepWholeSpec.post enc Try.prog Try.f4 false true false false) := by
  refine returnsInHanded_of_change (C := Try.checked) own started (by kernel_rfl) Try.func4
    (ChangeSpec.witness6 (enc := enc) (C := Try.checked) false ⟨#[], #[.slice none 0 0, .int .i64 0, .int .i64 0, .slice none 0 0, .int .u8 0], []⟩ 8 (by kernel_rfl) (by kernel_rfl) (by kernel_rfl) (by kernel_rfl)) ?_
  intro W base args ds gs before hval0 hW hcnd _
  have hval : ∀ (j : Nat) t v, Try.f4.params[j]? = some t → args[j]? = some v → Value.okWide Try.prog W .any base t v := hval0
  have hW' := hW
  obtain ⟨p, q, hA0, hV, rfl, hfz, hnd⟩ := hW
  have hA : DataW.TrodAll enc Try.prog W 0 (fun _ => true) true Try.f4.params.toList args.toList ds p := hA0
  rw [Try.params4] at hA hval
  obtain ⟨v0, vs0, d0, ds0, p0, q0, hargs, rfl, rfl, h0, r0⟩ := trodAll_cons hA
  obtain ⟨v1, vs1, d1, ds1, p1, q1, rfl, rfl, rfl, h1, r1⟩ := trodAll_cons r0
  obtain ⟨v2, vs2, d2, ds2, p2, q2, rfl, rfl, rfl, h2, r2⟩ := trodAll_cons r1
  obtain ⟨v3, vs3, d3, ds3, p3, q3, rfl, rfl, rfl, h3, r3⟩ := trodAll_cons r2
  obtain ⟨v4, vs4, d4, ds4, p4, q4, rfl, rfl, rfl, h4, r4⟩ := trodAll_cons r3
  obtain ⟨rfl, rfl, rfl⟩ := trodAll_nil r4
  obtain rfl : args = #[v0, v1, v2, v3, v4] := by cases args; simp_all
  obtain ⟨rfl, rfl⟩ := trodVars_none hV
  have k0 := h0
  have lt0 : ∀ x ∈ p0, x.block < W.heap.size := by obtain ⟨m, hm⟩ := k0; exact DataW.trod_lt m _ _ _ hm
  obtain ⟨A0, a0, c0, e0v, g0, m0, w0⟩ := open_words Try.underlying22 Try.underlying62 (by kernel_rfl) (hval 0 22 v0 rfl rfl) h0; subst e0v
  have k1 := h1
  have lt1 : ∀ x ∈ p1, x.block < W.heap.size := by obtain ⟨m, hm⟩ := k1; exact DataW.trod_lt m _ _ _ hm
  obtain ⟨a1, e1v, _, _, w1⟩ := open_int Try.underlying3 (hval 1 3 v1 rfl rfl) h1; subst e1v
  have k2 := h2
  have lt2 : ∀ x ∈ p2, x.block < W.heap.size := by obtain ⟨m, hm⟩ := k2; exact DataW.trod_lt m _ _ _ hm
  obtain ⟨a2, e2v, _, _, w2⟩ := open_int Try.underlying3 (hval 2 3 v2 rfl rfl) h2; subst e2v
  have k3 := h3
  have lt3 : ∀ x ∈ p3, x.block < W.heap.size := by obtain ⟨m, hm⟩ := k3; exact DataW.trod_lt m _ _ _ hm
  obtain ⟨A3, a3, c3, e3v, g3, m3, w3⟩ := open_intz Try.underlying23 Try.underlying3 (by kernel_rfl) (hval 3 23 v3 rfl rfl) h3; subst e3v
  have k4 := h4
  have lt4 : ∀ x ∈ p4, x.block < W.heap.size := by obtain ⟨m, hm⟩ := k4; exact DataW.trod_lt m _ _ _ hm
  obtain ⟨a4, e4v, _, _, w4⟩ := open_int Try.underlying5 (hval 4 5 v4 rfl rfl) h4; subst e4v
  clear hA0 hval0
  refine (whole_walk W A0 a0 c0 g0 m0 w0 a1 w1 a2 w2 A3 a3 c3 g3 m3 w3 a4 w4).mono fun e W' ⟨he, bel⟩ => ?_
  subst he
  exact ⟨_, rfl, _, _, _, [], _, [], hW', trodAll_mk1 (shut_bool Try.underlying4 _), (trodAll_cons_mk (Below.trod laidOut (by kernel_rfl) (of_decide_eq_true (by kernel_rfl)) k0 bel lt0) (trodAll_cons_mk (Below.trod laidOut (by kernel_rfl) (of_decide_eq_true (by kernel_rfl)) k1 bel lt1) (trodAll_cons_mk (Below.trod laidOut (by kernel_rfl) (of_decide_eq_true (by kernel_rfl)) k2 bel lt2) (trodAll_cons_mk (Below.trod laidOut (by kernel_rfl) (of_decide_eq_true (by kernel_rfl)) k3 bel lt3) (trodAll_cons_mk (Below.trod laidOut (by kernel_rfl) (of_decide_eq_true (by kernel_rfl)) k4 bel lt4) trodAll_mk0))))), rfl, bel.frame _, fun h => by cases h⟩
theorem over : Rows.stepWholeRow.holds Try.pinned (OpenSpec.ofChange Rows.stepWholeSpec) :=
  OpenClaim.holds_of_wide 4 Try.f4 rfl rfl rfl rfl rfl rfl rfl ⟨rfl, rfl, rfl, rfl, rfl⟩ rfl rfl rfl rfl rfl (by kernel_rfl) Try.func4 (by kernel_rfl)
    (of_decide_eq_true (by kernel_rfl)) (by unfold Func.isWrapper; first | (rw [if_pos (by decide +kernel)]; kernel_rfl) | (rw [if_neg (by decide +kernel)]; exact ⟨rfl, rfl⟩))
    (fun os started H enc _ => lifted os started H enc)
theorem proved : Rows.StepWholeSaid := over
end Go.Proofs.Ytbanbpphadgoiaa.stepWhole
