/- space: Of; loamlaw15's Mem, ints, Same. Conditions: lengths. -/
import Derived.Test.YtbanbpphadgoiaaSpG
namespace Go.Proofs.Ytbanbpphadgoiaa
set_option linter.unusedVariables false
set_option linter.unusedSimpArgs false
open Go.RowKit
set_option maxHeartbeats 400000
set_option maxRecDepth 100000
theorem mem15_c (w : World) (A : Option Addr) (c : Nat) (ws : List (BitVec 64)) (hr : Rd u64v w w.heap.size A ws) (hl : ws.length ≤ 8192) :
    Calls Try.prog 31 #[.slice A ws.length c] w fun e w' => ∃ g v, e = .returned (.pointer (some ⟨g, 0, none⟩)) ∧ MemAt w' w.heap.size g v ws ∧ Below w.heap.size w w' := by
  have HO := Lib.hid (of_in w A c ws hr hl)
  obtain ⟨N, hN⟩ : ∃ N, N = ws.length := ⟨_, rfl⟩
  rw [← hN] at HO ⊢
  clear hr hl hN
  go_enter Try.func31, Try.ntmps31
  go_wp2_with fail
  refine Calls.mono HO.out ?_
  rintro r w1 ⟨g, v, rfl, h1, b1⟩
  have H1 := Lib.hid (And.intro h1 b1)
  clear h1 b1
  go_wp2_with fail
  go_ret
  exact ⟨g, v, rfl, H1.out.1, H1.out.2⟩
theorem sof_out (w : World) (m : Value) (b t e : Int) (hb : Calls Try.prog 57 #[m, .int .i64 b, .int .i64 t, .int .i64 e] w fun r w' => r = .returned (.tuple #[.pointer none, .int .i64 1]) ∧ w' = w) :
    Calls Try.prog 30 #[m, .int .i64 b, .int .i64 t, .int .i64 e] w fun r w' => r = .returned (.tuple #[.pointer none, .int .i64 1]) ∧ w' = w := by
  have HB := Lib.hid hb
  clear hb
  go_enter Try.func30, Try.ntmps30
  go_wp2_with fail
  refine Calls.mono HB.out ?_
  rintro r w1 ⟨rfl, rfl⟩
  go_wp2_with fail
  go_ret2
  exact ⟨rfl, rfl⟩
theorem sof_none (w : World) (B g : Nat) (v : Value) (ws : List (BitVec 64)) (b t e : Nat) (h : MemAt w B g v ws) (hbt : b ≤ t) (hte : t ≤ e) (hel : e ≤ ws.length) (hl : ws.length ≤ 100000) (ho : objF ws t (t + 1) b = none) :
    Calls Try.prog 30 #[.pointer (some ⟨g, 0, none⟩), .int .i64 b, .int .i64 t, .int .i64 e] w (RetP (.tuple #[.pointer none, .int .i64 2]) w) := by
  have HB := Lib.hid (bare_in w B g v ws b t e h hbt hte hel hl)
  have HO := Lib.hid (fun W s (p : SpAt W B s g v ws b t e) => objects_c W B s g v ws b t e p hl)
  rw [ho] at HO
  clear h hbt hte hel hl ho
  go_enter Try.func30, Try.ntmps30
  go_wp2_with fail
  refine Calls.mono HB.out ?_
  rintro r w1 ⟨s, rfl, h1, b1⟩
  have H1 := Lib.hid (And.intro h1 b1)
  clear h1 b1
  go_wp2_with fail
  refine Calls.mono (HO.out w1 s H1.out.1) ?_
  rintro r w2 ⟨rfl, b2⟩
  have H2 := Lib.hid (H1.out.2.trans (b2.mono H1.out.2.size))
  clear b2
  go_wp2_with fail
  go_ret2
  exact ⟨rfl, H2.out⟩
theorem sof_some (w : World) (B g : Nat) (v : Value) (ws : List (BitVec 64)) (b t e : Nat) (h : MemAt w B g v ws) (hbt : b ≤ t) (hte : t ≤ e) (hel : e ≤ ws.length) (hl : ws.length ≤ 100000) (l : List Nat) (ho : objF ws t (t + 1) b = some l) :
    Calls Try.prog 30 #[.pointer (some ⟨g, 0, none⟩), .int .i64 b, .int .i64 t, .int .i64 e] w fun r w' => ∃ s, r = .returned (.tuple #[.pointer (some ⟨s, 0, none⟩), .int .i64 0]) ∧ SpAt w' B s g v ws b t e ∧ Below w.heap.size w w' := by
  have HB := Lib.hid (bare_in w B g v ws b t e h hbt hte hel hl)
  have HO := Lib.hid (fun W s (p : SpAt W B s g v ws b t e) => objects_c W B s g v ws b t e p hl)
  rw [ho] at HO
  clear h hbt hte hel hl ho
  go_enter Try.func30, Try.ntmps30
  go_wp2_with fail
  refine Calls.mono HB.out ?_
  rintro r w1 ⟨s, rfl, h1, b1⟩
  have H1 := Lib.hid (And.intro h1 b1)
  clear h1 b1
  go_wp2_with fail
  refine Calls.mono (HO.out w1 s H1.out.1) ?_
  rintro r w2 ⟨A2, c2, rfl, _, _, b2⟩
  have H2 := Lib.hid (And.intro (H1.out.1.below b2) (H1.out.2.trans (b2.mono H1.out.2.size)))
  clear b2
  go_wp2_with fail
  go_ret2
  exact ⟨s, rfl, H2.out.1, H2.out.2⟩
theorem of_bl {P : Program} {f : FuncId} {args : Array Value} {v : Value} {w : World} (h : Calls P f args w fun r w' => r = .returned v ∧ Below w.heap.size w w') : Calls P f args w fun e w2 => ∃ u, e = .returned u ∧ Below w.heap.size w w2 ∧ IsV v u w2 :=
  h.mono fun _ _ h => ⟨_, h.1, h.2, rfl⟩
theorem ints_r (Q : Exit → Act → World → Prop) (a0 : Act) (w : World) (a b : Addr) (N c c2 i x : Nat) (ha : a.block < w.heap.size) (hb : b.block < w.heap.size) (h1 : w.cell? (a.add i) = some (.int .i64 x)) (h2 : w.cell? (b.add i) = some (.int .i64 x)) (p1 : (0 : Int) ≤ (i : Int)) (p2 : (i : Int) < (N : Int)) (hsz : a0.tmps.size = 26) (sl0 : a0.tmps.getD 0 undef = .slice (some a) N c) (sl1 : a0.tmps.getD 1 undef = .slice (some b) N c2) (sl5 : a0.tmps.getD 5 undef = .int .i64 i)
    (fin : ∀ (vals : Nat → Value) (w1 : World), Below w.heap.size w w1 → (IsV (.bool false)) (vals 8) w1 → Q .normal (putD vals [17, 18, 19, 20, 21, 22, 23, 24, 25] 0 a0) w1) :
    (Code.region 6 (regIn Try.f50 6) true).wp Try.prog Q a0 w := by
  refine region_by (G := fun w w1 => Below w.heap.size w w1) [IsV (.slice (some a) N c),
    IsV (.int .i64 i),
    IsV (.pointer (some (a.add i))),
    IsV (.int .i64 x),
    IsV (.slice (some b) N c2),
    IsV (.int .i64 i),
    IsV (.pointer (some (b.add i))),
    IsV (.int .i64 x),
    IsV (.bool false)]
    [17, 18, 19, 20, 21, 22, 23, 24, 25] (by kernel_rfl) (Gw.drew _) Gw.trans (by rw [hsz]; kernel_rfl) (by kernel_rfl) ?_ ?_ ?_
  · intro f hf
    simp only [List.mem_cons, List.not_mem_nil, or_false] at hf
    rcases hf with rfl | rfl | rfl | rfl | rfl | rfl | rfl | rfl | rfl <;> intro v a b h g <;> first | exact IsV.mono h
  · refine ⟨?_, ?_, ?_, ?_, ?_, ?_, ?_, ?_, ?_, trivial⟩
    · exact owes_mv 0 (by kernel_rfl) (by kernel_rfl) (by kernel_rfl) sl0 (fun _ => rfl)
    · exact owes_mv 5 (by kernel_rfl) (by kernel_rfl) (by kernel_rfl) sl5 (fun _ => rfl)
    · refine owes_v (Go.Op.indexAddr 23 (Go.Operand.tmp 17) (Go.Operand.tmp 18)) 0 [0, 1] (by kernel_rfl) (by kernel_rfl) (by kernel_rfl) rfl fun vals w1 ρ hG hF hρ hcst hfun => ?_
      have e17 : ρ (.tmp 17) = .slice (some a) N c := ((hρ 17).trans (slotJ [0, 1] (by rw [hsz]; decide) (by kernel_rfl))).trans (hF 0 (by decide))
      have e18 : ρ (.tmp 18) = .int .i64 i := ((hρ 18).trans (slotJ [0, 1] (by rw [hsz]; decide) (by kernel_rfl))).trans (hF 1 (by decide))
      clear hρ hF hcst hfun sl0 sl1 sl5 fin
      exact opv_val (by go_simp <;> rfl) ⟨gw_self _, rfl⟩
    · refine owes_v (Go.Op.load 3 (Go.Operand.tmp 19)) 3 [2] (by kernel_rfl) (by kernel_rfl) (by kernel_rfl) rfl fun vals w1 ρ hG hF hρ hcst hfun => ?_
      have e19 : ρ (.tmp 19) = .pointer (some (a.add i)) := ((hρ 19).trans (slotJ [2] (by rw [hsz]; decide) (by kernel_rfl))).trans (hF 2 (by decide))
      have k := (hG.cell (p := a.add i) (by rw [add_block]; exact ha)).trans h1
      clear hρ hF hcst hfun sl0 sl1 sl5 fin
      exact opv_val (by go_simp <;> rfl) ⟨gw_self _, rfl⟩
    · exact owes_mv 1 (by kernel_rfl) (by kernel_rfl) (by kernel_rfl) sl1 (fun _ => rfl)
    · exact owes_mv 5 (by kernel_rfl) (by kernel_rfl) (by kernel_rfl) sl5 (fun _ => rfl)
    · refine owes_v (Go.Op.indexAddr 23 (Go.Operand.tmp 21) (Go.Operand.tmp 22)) 0 [4, 5] (by kernel_rfl) (by kernel_rfl) (by kernel_rfl) rfl fun vals w1 ρ hG hF hρ hcst hfun => ?_
      have e21 : ρ (.tmp 21) = .slice (some b) N c2 := ((hρ 21).trans (slotJ [4, 5] (by rw [hsz]; decide) (by kernel_rfl))).trans (hF 4 (by decide))
      have e22 : ρ (.tmp 22) = .int .i64 i := ((hρ 22).trans (slotJ [4, 5] (by rw [hsz]; decide) (by kernel_rfl))).trans (hF 5 (by decide))
      clear hρ hF hcst hfun sl0 sl1 sl5 fin
      exact opv_val (by go_simp <;> rfl) ⟨gw_self _, rfl⟩
    · refine owes_v (Go.Op.load 3 (Go.Operand.tmp 23)) 3 [6] (by kernel_rfl) (by kernel_rfl) (by kernel_rfl) rfl fun vals w1 ρ hG hF hρ hcst hfun => ?_
      have e23 : ρ (.tmp 23) = .pointer (some (b.add i)) := ((hρ 23).trans (slotJ [6] (by rw [hsz]; decide) (by kernel_rfl))).trans (hF 6 (by decide))
      have k := (hG.cell (p := b.add i) (by rw [add_block]; exact hb)).trans h2
      clear hρ hF hcst hfun sl0 sl1 sl5 fin
      exact opv_val (by go_simp <;> rfl) ⟨gw_self _, rfl⟩
    · refine owes_v (Go.Op.binOp Go.BinOp.neq 3 (Go.Operand.tmp 20) (Go.Operand.tmp 24) 3) 4 [3, 7] (by kernel_rfl) (by kernel_rfl) (by kernel_rfl) rfl fun vals w1 ρ hG hF hρ hcst hfun => ?_
      have e20 : ρ (.tmp 20) = .int .i64 x := ((hρ 20).trans (slotJ [3, 7] (by rw [hsz]; decide) (by kernel_rfl))).trans (hF 3 (by decide))
      have e24 : ρ (.tmp 24) = .int .i64 x := ((hρ 24).trans (slotJ [3, 7] (by rw [hsz]; decide) (by kernel_rfl))).trans (hF 7 (by decide))
      clear hρ hF hcst hfun sl0 sl1 sl5 fin
      exact opv_val (by go_simp <;> rfl) ⟨gw_self _, rfl⟩
  · intro vals w1 hG hF
    exact fin vals w1 hG (hF 8 (by decide +kernel))
theorem ints_t (w : World) (A A2 : Option Addr) (c c2 : Nat) (l : List Nat) (hr : Rd iN w w.heap.size A l) (hr2 : Rd iN w w.heap.size A2 l) (hl : l.length ≤ 1000000) : Calls Try.prog 50 #[.slice A l.length c, .slice A2 l.length c2] w (RetP (.bool true) w) := by
  obtain ⟨N, hN⟩ : ∃ N, N = l.length := ⟨_, rfl⟩
  have HN := Lib.hid hN
  have HR := Lib.hid hr
  have HR2 := Lib.hid hr2
  have q3 : (N : Int) ≤ 1000000 := by omega
  rw [← hN]
  clear hN hr hr2 hl
  go_enter Try.func50, Try.ntmps50
  go_wp2_with fail
  go_loopw [5] (fun i wr => ∃ k : Nat, k ≤ N ∧ i = .int .i64 k ∧ Below w.heap.size w wr) (fun i _ => N - (intOf i).toNat)
  case atStart => exact ⟨0, by omega, rfl, Below.refl _ _⟩
  case round =>
    obtain ⟨k, hk, rfl, hB⟩ := hrel
    by_cases hlt : k < N
    · have p1 : (0 : Int) ≤ (k : Int) := by omega
      have p2 : (k : Int) < (N : Int) := by omega
      have hlw : k < l.length := by rw [← HN.out]; exact hlt
      obtain ⟨ad, rfl, hadb, hcl⟩ := (HR.out.below hB) k hlw
      obtain ⟨ad2, rfl, hadb2, hcl2⟩ := (HR2.out.below hB) k hlw
      obtain ⟨y, hy⟩ : ∃ y, y = l[k] := ⟨_, rfl⟩
      rw [← hy] at hcl hcl2
      unfold iN at hcl hcl2
      have hsz := hB.size
      have HS := Lib.hid (fun Q a0 => ints_r Q a0 wr ad ad2 N c c2 k y (by omega) (by omega) hcl hcl2 p1 p2)
      clear hy hadb hadb2 hcl hcl2 hlw hsz
      go_wp2_with fail
      refine HS.out _ _ rfl rfl rfl rfl ?_
      intro vals w4 hG h25
      unfold IsV at h25
      simp only [putD, Act.put, List.setIfInBounds_toArray, List.set_cons_zero, List.set_cons_succ, h25]
      have HB4 := Lib.hid (hB.trans (hG.mono hB.size))
      clear h25 hG HS
      go_wp2_with fail
      go_roundw
      case rel => exact ⟨k + 1, by omega, by go_num, HB4.out⟩
      case measure => (first | (simp [intOf]; done) | (simp [intOf]; omega))
    · go_wp2_with fail
      go_ret
      exact ⟨rfl, hB⟩
theorem sm_a (Q : Exit → Act → World → Prop) (a0 : Act) (w : World) (s R g N c c5 b t e : Nat) (A A5 : Option Addr) (hs : Bk w s 61 #[.pointer (some ⟨g, 0, none⟩), .int .i64 b, .int .i64 t, .int .i64 e]) (hr : Bk w R 30 #[.slice A N c, .int .i64 b, .int .i64 t, .int .i64 e]) (hsz : a0.tmps.size = 97) (sl0 : a0.tmps.getD 0 undef = .pointer (some ⟨s, 0, none⟩)) (sl1 : a0.tmps.getD 1 undef = .pointer (some ⟨R, 0, none⟩)) (sl5 : a0.tmps.getD 5 undef = .slice A5 N c5)
    (fin : ∀ (vals : Nat → Value) (w1 : World), Below w.heap.size w w1 → (IsV (.bool false)) (vals 40) w1 → Q .normal (putD vals [12, 13, 14, 15, 16, 17, 18, 19, 20, 21, 22, 23, 24, 25, 26, 27, 28, 29, 30, 31, 32, 33, 34, 35, 36, 37, 38, 39, 40, 41, 42, 43, 44, 45, 46, 47, 48, 49, 50, 51, 52] 0 a0) w1) :
    (Code.region 2 (regIn Try.f22 2) true).wp Try.prog Q a0 w := by
  refine region_by (G := fun w w1 => Below w.heap.size w w1) [IsV (.pointer (some ⟨s, 0, none⟩)),
    IsV (.pointer (some ⟨s, 0, none⟩)),
    IsV (.pointer (some ⟨s, 1, none⟩)),
    IsV (.int .i64 b),
    IsV (.pointer (some ⟨R, 0, none⟩)),
    IsV (.pointer (some ⟨R, 0, none⟩)),
    IsV (.pointer (some ⟨R, 1, none⟩)),
    IsV (.int .i64 b),
    IsV (.bool false),
    IsV (.bool false),
    IsV (.pointer (some ⟨s, 0, none⟩)),
    IsV (.pointer (some ⟨s, 0, none⟩)),
    IsV (.pointer (some ⟨s, 2, none⟩)),
    IsV (.int .i64 t),
    IsV (.pointer (some ⟨R, 0, none⟩)),
    IsV (.pointer (some ⟨R, 0, none⟩)),
    IsV (.pointer (some ⟨R, 2, none⟩)),
    IsV (.int .i64 t),
    IsV (.bool false),
    IsV (.bool false),
    IsV (.bool false),
    IsV (.pointer (some ⟨s, 0, none⟩)),
    IsV (.pointer (some ⟨s, 0, none⟩)),
    IsV (.pointer (some ⟨s, 3, none⟩)),
    IsV (.int .i64 e),
    IsV (.pointer (some ⟨R, 0, none⟩)),
    IsV (.pointer (some ⟨R, 0, none⟩)),
    IsV (.pointer (some ⟨R, 3, none⟩)),
    IsV (.int .i64 e),
    IsV (.bool false),
    IsV (.bool false),
    IsV (.bool false),
    IsV (.slice A5 N c5),
    IsV (.int .i64 N),
    IsV (.pointer (some ⟨R, 0, none⟩)),
    IsV (.pointer (some ⟨R, 0, none⟩)),
    IsV (.pointer (some ⟨R, 0, none⟩)),
    IsV (.slice A N c),
    IsV (.int .i64 N),
    IsV (.bool false),
    IsV (.bool false)]
    [12, 13, 14, 15, 16, 17, 18, 19, 20, 21, 22, 23, 24, 25, 26, 27, 28, 29, 30, 31, 32, 33, 34, 35, 36, 37, 38, 39, 40, 41, 42, 43, 44, 45, 46, 47, 48, 49, 50, 51, 52] (by kernel_rfl) (Gw.drew _) Gw.trans (by rw [hsz]; kernel_rfl) (by kernel_rfl) ?_ ?_ ?_
  · intro f hf
    simp only [List.mem_cons, List.not_mem_nil, or_false] at hf
    rcases hf with rfl | rfl | rfl | rfl | rfl | rfl | rfl | rfl | rfl | rfl | rfl | rfl | rfl | rfl | rfl | rfl | rfl | rfl | rfl | rfl | rfl | rfl | rfl | rfl | rfl | rfl | rfl | rfl | rfl | rfl | rfl | rfl | rfl | rfl | rfl | rfl | rfl | rfl | rfl | rfl | rfl <;> intro v a b h g <;> first | exact IsV.mono h
  · refine ⟨?_, ?_, ?_, ?_, ?_, ?_, ?_, ?_, ?_, ?_, ?_, ?_, ?_, ?_, ?_, ?_, ?_, ?_, ?_, ?_, ?_, ?_, ?_, ?_, ?_, ?_, ?_, ?_, ?_, ?_, ?_, ?_, ?_, ?_, ?_, ?_, ?_, ?_, ?_, ?_, ?_, trivial⟩
    · exact owes_mv 0 (by kernel_rfl) (by kernel_rfl) (by kernel_rfl) sl0 (fun _ => rfl)
    · refine owes_v (Go.Op.nilCheck (Go.Operand.tmp 12)) 0 [0] (by kernel_rfl) (by kernel_rfl) (by kernel_rfl) rfl fun vals w1 ρ hG hF hρ hcst hfun => ?_
      have e12 : ρ (.tmp 12) = .pointer (some ⟨s, 0, none⟩) := ((hρ 12).trans (slotJ [0] (by rw [hsz]; decide) (by kernel_rfl))).trans (hF 0 (by decide))
      clear hρ hF hcst hfun sl0 sl1 sl5 fin
      exact opv_val (by go_simp <;> rfl) ⟨gw_self _, rfl⟩
    · refine owes_v (Go.Op.fieldAddr 61 (Go.Operand.tmp 13) 1) 0 [1] (by kernel_rfl) (by kernel_rfl) (by kernel_rfl) rfl fun vals w1 ρ hG hF hρ hcst hfun => ?_
      have e13 : ρ (.tmp 13) = .pointer (some ⟨s, 0, none⟩) := ((hρ 13).trans (slotJ [1] (by rw [hsz]; decide) (by kernel_rfl))).trans (hF 1 (by decide))
      clear hρ hF hcst hfun sl0 sl1 sl5 fin
      exact opv_val (by go_simp <;> rfl) ⟨gw_self _, rfl⟩
    · refine owes_v (Go.Op.load 3 (Go.Operand.tmp 14)) 3 [2] (by kernel_rfl) (by kernel_rfl) (by kernel_rfl) rfl fun vals w1 ρ hG hF hρ hcst hfun => ?_
      have e14 : ρ (.tmp 14) = .pointer (some ⟨s, 1, none⟩) := ((hρ 14).trans (slotJ [2] (by rw [hsz]; decide) (by kernel_rfl))).trans (hF 2 (by decide))
      have k := (hs.below hG hs.lt).cell 1
      clear hρ hF hcst hfun sl0 sl1 sl5 fin
      exact opv_val (by go_simp <;> rfl) ⟨gw_self _, rfl⟩
    · exact owes_mv 1 (by kernel_rfl) (by kernel_rfl) (by kernel_rfl) sl1 (fun _ => rfl)
    · refine owes_v (Go.Op.nilCheck (Go.Operand.tmp 16)) 0 [4] (by kernel_rfl) (by kernel_rfl) (by kernel_rfl) rfl fun vals w1 ρ hG hF hρ hcst hfun => ?_
      have e16 : ρ (.tmp 16) = .pointer (some ⟨R, 0, none⟩) := ((hρ 16).trans (slotJ [4] (by rw [hsz]; decide) (by kernel_rfl))).trans (hF 4 (by decide))
      clear hρ hF hcst hfun sl0 sl1 sl5 fin
      exact opv_val (by go_simp <;> rfl) ⟨gw_self _, rfl⟩
    · refine owes_v (Go.Op.fieldAddr 30 (Go.Operand.tmp 17) 1) 0 [5] (by kernel_rfl) (by kernel_rfl) (by kernel_rfl) rfl fun vals w1 ρ hG hF hρ hcst hfun => ?_
      have e17 : ρ (.tmp 17) = .pointer (some ⟨R, 0, none⟩) := ((hρ 17).trans (slotJ [5] (by rw [hsz]; decide) (by kernel_rfl))).trans (hF 5 (by decide))
      clear hρ hF hcst hfun sl0 sl1 sl5 fin
      exact opv_val (by go_simp <;> rfl) ⟨gw_self _, rfl⟩
    · refine owes_v (Go.Op.load 3 (Go.Operand.tmp 18)) 3 [6] (by kernel_rfl) (by kernel_rfl) (by kernel_rfl) rfl fun vals w1 ρ hG hF hρ hcst hfun => ?_
      have e18 : ρ (.tmp 18) = .pointer (some ⟨R, 1, none⟩) := ((hρ 18).trans (slotJ [6] (by rw [hsz]; decide) (by kernel_rfl))).trans (hF 6 (by decide))
      have k := (hr.below hG hr.lt).cell 1
      clear hρ hF hcst hfun sl0 sl1 sl5 fin
      exact opv_val (by go_simp <;> rfl) ⟨gw_self _, rfl⟩
    · refine owes_v (Go.Op.binOp Go.BinOp.neq 3 (Go.Operand.tmp 15) (Go.Operand.tmp 19) 3) 4 [3, 7] (by kernel_rfl) (by kernel_rfl) (by kernel_rfl) rfl fun vals w1 ρ hG hF hρ hcst hfun => ?_
      have e15 : ρ (.tmp 15) = .int .i64 b := ((hρ 15).trans (slotJ [3, 7] (by rw [hsz]; decide) (by kernel_rfl))).trans (hF 3 (by decide))
      have e19 : ρ (.tmp 19) = .int .i64 b := ((hρ 19).trans (slotJ [3, 7] (by rw [hsz]; decide) (by kernel_rfl))).trans (hF 7 (by decide))
      clear hρ hF hcst hfun sl0 sl1 sl5 fin
      exact opv_val (by go_simp <;> rfl) ⟨gw_self _, rfl⟩
    · exact owes_mvj 8 20 (by kernel_rfl) (by kernel_rfl) (by kernel_rfl) (by kernel_rfl) (by rw [hsz]; decide) (fun v w h => h)
    · refine owes_vt 9 false (Go.Op.move (Go.Operand.tmp 0)) 26 [] (by kernel_rfl) (by kernel_rfl) (by kernel_rfl) (fun _ _ h => h) (by rw [hsz]; kernel_rfl) (by kernel_rfl) rfl fun vals w1 ρ hG hF hρ hcst hfun => ?_
      have e0 : ρ (.tmp 0) = .pointer (some ⟨s, 0, none⟩) := ((hρ 0).trans (slotO [] (by kernel_rfl))).trans sl0
      clear hρ hF hcst hfun sl0 sl1 sl5 fin
      exact opv_val (by go_simp <;> rfl) ⟨gw_self _, rfl⟩
    · refine owes_vt 9 false (Go.Op.nilCheck (Go.Operand.tmp 22)) 0 [10] (by kernel_rfl) (by kernel_rfl) (by kernel_rfl) (fun _ _ h => h) (by rw [hsz]; kernel_rfl) (by kernel_rfl) rfl fun vals w1 ρ hG hF hρ hcst hfun => ?_
      have e22 : ρ (.tmp 22) = .pointer (some ⟨s, 0, none⟩) := ((hρ 22).trans (slotJ [10] (by rw [hsz]; decide) (by kernel_rfl))).trans (hF 10 (by decide))
      clear hρ hF hcst hfun sl0 sl1 sl5 fin
      exact opv_val (by go_simp <;> rfl) ⟨gw_self _, rfl⟩
    · refine owes_vt 9 false (Go.Op.fieldAddr 61 (Go.Operand.tmp 23) 2) 0 [11] (by kernel_rfl) (by kernel_rfl) (by kernel_rfl) (fun _ _ h => h) (by rw [hsz]; kernel_rfl) (by kernel_rfl) rfl fun vals w1 ρ hG hF hρ hcst hfun => ?_
      have e23 : ρ (.tmp 23) = .pointer (some ⟨s, 0, none⟩) := ((hρ 23).trans (slotJ [11] (by rw [hsz]; decide) (by kernel_rfl))).trans (hF 11 (by decide))
      clear hρ hF hcst hfun sl0 sl1 sl5 fin
      exact opv_val (by go_simp <;> rfl) ⟨gw_self _, rfl⟩
    · refine owes_vt 9 false (Go.Op.load 3 (Go.Operand.tmp 24)) 3 [12] (by kernel_rfl) (by kernel_rfl) (by kernel_rfl) (fun _ _ h => h) (by rw [hsz]; kernel_rfl) (by kernel_rfl) rfl fun vals w1 ρ hG hF hρ hcst hfun => ?_
      have e24 : ρ (.tmp 24) = .pointer (some ⟨s, 2, none⟩) := ((hρ 24).trans (slotJ [12] (by rw [hsz]; decide) (by kernel_rfl))).trans (hF 12 (by decide))
      have k := (hs.below hG hs.lt).cell 2
      clear hρ hF hcst hfun sl0 sl1 sl5 fin
      exact opv_val (by go_simp <;> rfl) ⟨gw_self _, rfl⟩
    · refine owes_vt 9 false (Go.Op.move (Go.Operand.tmp 1)) 28 [] (by kernel_rfl) (by kernel_rfl) (by kernel_rfl) (fun _ _ h => h) (by rw [hsz]; kernel_rfl) (by kernel_rfl) rfl fun vals w1 ρ hG hF hρ hcst hfun => ?_
      have e1 : ρ (.tmp 1) = .pointer (some ⟨R, 0, none⟩) := ((hρ 1).trans (slotO [] (by kernel_rfl))).trans sl1
      clear hρ hF hcst hfun sl0 sl1 sl5 fin
      exact opv_val (by go_simp <;> rfl) ⟨gw_self _, rfl⟩
    · refine owes_vt 9 false (Go.Op.nilCheck (Go.Operand.tmp 26)) 0 [14] (by kernel_rfl) (by kernel_rfl) (by kernel_rfl) (fun _ _ h => h) (by rw [hsz]; kernel_rfl) (by kernel_rfl) rfl fun vals w1 ρ hG hF hρ hcst hfun => ?_
      have e26 : ρ (.tmp 26) = .pointer (some ⟨R, 0, none⟩) := ((hρ 26).trans (slotJ [14] (by rw [hsz]; decide) (by kernel_rfl))).trans (hF 14 (by decide))
      clear hρ hF hcst hfun sl0 sl1 sl5 fin
      exact opv_val (by go_simp <;> rfl) ⟨gw_self _, rfl⟩
    · refine owes_vt 9 false (Go.Op.fieldAddr 30 (Go.Operand.tmp 27) 2) 0 [15] (by kernel_rfl) (by kernel_rfl) (by kernel_rfl) (fun _ _ h => h) (by rw [hsz]; kernel_rfl) (by kernel_rfl) rfl fun vals w1 ρ hG hF hρ hcst hfun => ?_
      have e27 : ρ (.tmp 27) = .pointer (some ⟨R, 0, none⟩) := ((hρ 27).trans (slotJ [15] (by rw [hsz]; decide) (by kernel_rfl))).trans (hF 15 (by decide))
      clear hρ hF hcst hfun sl0 sl1 sl5 fin
      exact opv_val (by go_simp <;> rfl) ⟨gw_self _, rfl⟩
    · refine owes_vt 9 false (Go.Op.load 3 (Go.Operand.tmp 28)) 3 [16] (by kernel_rfl) (by kernel_rfl) (by kernel_rfl) (fun _ _ h => h) (by rw [hsz]; kernel_rfl) (by kernel_rfl) rfl fun vals w1 ρ hG hF hρ hcst hfun => ?_
      have e28 : ρ (.tmp 28) = .pointer (some ⟨R, 2, none⟩) := ((hρ 28).trans (slotJ [16] (by rw [hsz]; decide) (by kernel_rfl))).trans (hF 16 (by decide))
      have k := (hr.below hG hr.lt).cell 2
      clear hρ hF hcst hfun sl0 sl1 sl5 fin
      exact opv_val (by go_simp <;> rfl) ⟨gw_self _, rfl⟩
    · refine owes_vt 9 false (Go.Op.binOp Go.BinOp.neq 3 (Go.Operand.tmp 25) (Go.Operand.tmp 29) 3) 4 [13, 17] (by kernel_rfl) (by kernel_rfl) (by kernel_rfl) (fun _ _ h => h) (by rw [hsz]; kernel_rfl) (by kernel_rfl) rfl fun vals w1 ρ hG hF hρ hcst hfun => ?_
      have e25 : ρ (.tmp 25) = .int .i64 t := ((hρ 25).trans (slotJ [13, 17] (by rw [hsz]; decide) (by kernel_rfl))).trans (hF 13 (by decide))
      have e29 : ρ (.tmp 29) = .int .i64 t := ((hρ 29).trans (slotJ [13, 17] (by rw [hsz]; decide) (by kernel_rfl))).trans (hF 17 (by decide))
      clear hρ hF hcst hfun sl0 sl1 sl5 fin
      exact opv_val (by go_simp <;> rfl) ⟨gw_self _, rfl⟩
    · refine owes_v (Go.Op.pick (Go.Operand.tmp 21) (Go.Operand.const (Go.Value.bool true)) (Go.Operand.tmp 30)) 4 [9, 18] (by kernel_rfl) (by kernel_rfl) (by kernel_rfl) rfl fun vals w1 ρ hG hF hρ hcst hfun => ?_
      have e21 : ρ (.tmp 21) = .bool false := ((hρ 21).trans (slotJ [9, 18] (by rw [hsz]; decide) (by kernel_rfl))).trans (hF 9 (by decide))
      have e30 : ρ (.tmp 30) = .bool false := ((hρ 30).trans (slotJ [9, 18] (by rw [hsz]; decide) (by kernel_rfl))).trans (hF 18 (by decide))
      clear hρ hF hfun sl0 sl1 sl5 fin
      exact opv_val (by go_simp <;> rfl) ⟨gw_self _, rfl⟩
    · exact owes_mvj 19 31 (by kernel_rfl) (by kernel_rfl) (by kernel_rfl) (by kernel_rfl) (by rw [hsz]; decide) (fun v w h => h)
    · refine owes_vt 20 false (Go.Op.move (Go.Operand.tmp 0)) 26 [] (by kernel_rfl) (by kernel_rfl) (by kernel_rfl) (fun _ _ h => h) (by rw [hsz]; kernel_rfl) (by kernel_rfl) rfl fun vals w1 ρ hG hF hρ hcst hfun => ?_
      have e0 : ρ (.tmp 0) = .pointer (some ⟨s, 0, none⟩) := ((hρ 0).trans (slotO [] (by kernel_rfl))).trans sl0
      clear hρ hF hcst hfun sl0 sl1 sl5 fin
      exact opv_val (by go_simp <;> rfl) ⟨gw_self _, rfl⟩
    · refine owes_vt 20 false (Go.Op.nilCheck (Go.Operand.tmp 33)) 0 [21] (by kernel_rfl) (by kernel_rfl) (by kernel_rfl) (fun _ _ h => h) (by rw [hsz]; kernel_rfl) (by kernel_rfl) rfl fun vals w1 ρ hG hF hρ hcst hfun => ?_
      have e33 : ρ (.tmp 33) = .pointer (some ⟨s, 0, none⟩) := ((hρ 33).trans (slotJ [21] (by rw [hsz]; decide) (by kernel_rfl))).trans (hF 21 (by decide))
      clear hρ hF hcst hfun sl0 sl1 sl5 fin
      exact opv_val (by go_simp <;> rfl) ⟨gw_self _, rfl⟩
    · refine owes_vt 20 false (Go.Op.fieldAddr 61 (Go.Operand.tmp 34) 3) 0 [22] (by kernel_rfl) (by kernel_rfl) (by kernel_rfl) (fun _ _ h => h) (by rw [hsz]; kernel_rfl) (by kernel_rfl) rfl fun vals w1 ρ hG hF hρ hcst hfun => ?_
      have e34 : ρ (.tmp 34) = .pointer (some ⟨s, 0, none⟩) := ((hρ 34).trans (slotJ [22] (by rw [hsz]; decide) (by kernel_rfl))).trans (hF 22 (by decide))
      clear hρ hF hcst hfun sl0 sl1 sl5 fin
      exact opv_val (by go_simp <;> rfl) ⟨gw_self _, rfl⟩
    · refine owes_vt 20 false (Go.Op.load 3 (Go.Operand.tmp 35)) 3 [23] (by kernel_rfl) (by kernel_rfl) (by kernel_rfl) (fun _ _ h => h) (by rw [hsz]; kernel_rfl) (by kernel_rfl) rfl fun vals w1 ρ hG hF hρ hcst hfun => ?_
      have e35 : ρ (.tmp 35) = .pointer (some ⟨s, 3, none⟩) := ((hρ 35).trans (slotJ [23] (by rw [hsz]; decide) (by kernel_rfl))).trans (hF 23 (by decide))
      have k := (hs.below hG hs.lt).cell 3
      clear hρ hF hcst hfun sl0 sl1 sl5 fin
      exact opv_val (by go_simp <;> rfl) ⟨gw_self _, rfl⟩
    · refine owes_vt 20 false (Go.Op.move (Go.Operand.tmp 1)) 28 [] (by kernel_rfl) (by kernel_rfl) (by kernel_rfl) (fun _ _ h => h) (by rw [hsz]; kernel_rfl) (by kernel_rfl) rfl fun vals w1 ρ hG hF hρ hcst hfun => ?_
      have e1 : ρ (.tmp 1) = .pointer (some ⟨R, 0, none⟩) := ((hρ 1).trans (slotO [] (by kernel_rfl))).trans sl1
      clear hρ hF hcst hfun sl0 sl1 sl5 fin
      exact opv_val (by go_simp <;> rfl) ⟨gw_self _, rfl⟩
    · refine owes_vt 20 false (Go.Op.nilCheck (Go.Operand.tmp 37)) 0 [25] (by kernel_rfl) (by kernel_rfl) (by kernel_rfl) (fun _ _ h => h) (by rw [hsz]; kernel_rfl) (by kernel_rfl) rfl fun vals w1 ρ hG hF hρ hcst hfun => ?_
      have e37 : ρ (.tmp 37) = .pointer (some ⟨R, 0, none⟩) := ((hρ 37).trans (slotJ [25] (by rw [hsz]; decide) (by kernel_rfl))).trans (hF 25 (by decide))
      clear hρ hF hcst hfun sl0 sl1 sl5 fin
      exact opv_val (by go_simp <;> rfl) ⟨gw_self _, rfl⟩
    · refine owes_vt 20 false (Go.Op.fieldAddr 30 (Go.Operand.tmp 38) 3) 0 [26] (by kernel_rfl) (by kernel_rfl) (by kernel_rfl) (fun _ _ h => h) (by rw [hsz]; kernel_rfl) (by kernel_rfl) rfl fun vals w1 ρ hG hF hρ hcst hfun => ?_
      have e38 : ρ (.tmp 38) = .pointer (some ⟨R, 0, none⟩) := ((hρ 38).trans (slotJ [26] (by rw [hsz]; decide) (by kernel_rfl))).trans (hF 26 (by decide))
      clear hρ hF hcst hfun sl0 sl1 sl5 fin
      exact opv_val (by go_simp <;> rfl) ⟨gw_self _, rfl⟩
    · refine owes_vt 20 false (Go.Op.load 3 (Go.Operand.tmp 39)) 3 [27] (by kernel_rfl) (by kernel_rfl) (by kernel_rfl) (fun _ _ h => h) (by rw [hsz]; kernel_rfl) (by kernel_rfl) rfl fun vals w1 ρ hG hF hρ hcst hfun => ?_
      have e39 : ρ (.tmp 39) = .pointer (some ⟨R, 3, none⟩) := ((hρ 39).trans (slotJ [27] (by rw [hsz]; decide) (by kernel_rfl))).trans (hF 27 (by decide))
      have k := (hr.below hG hr.lt).cell 3
      clear hρ hF hcst hfun sl0 sl1 sl5 fin
      exact opv_val (by go_simp <;> rfl) ⟨gw_self _, rfl⟩
    · refine owes_vt 20 false (Go.Op.binOp Go.BinOp.neq 3 (Go.Operand.tmp 36) (Go.Operand.tmp 40) 3) 4 [24, 28] (by kernel_rfl) (by kernel_rfl) (by kernel_rfl) (fun _ _ h => h) (by rw [hsz]; kernel_rfl) (by kernel_rfl) rfl fun vals w1 ρ hG hF hρ hcst hfun => ?_
      have e36 : ρ (.tmp 36) = .int .i64 e := ((hρ 36).trans (slotJ [24, 28] (by rw [hsz]; decide) (by kernel_rfl))).trans (hF 24 (by decide))
      have e40 : ρ (.tmp 40) = .int .i64 e := ((hρ 40).trans (slotJ [24, 28] (by rw [hsz]; decide) (by kernel_rfl))).trans (hF 28 (by decide))
      clear hρ hF hcst hfun sl0 sl1 sl5 fin
      exact opv_val (by go_simp <;> rfl) ⟨gw_self _, rfl⟩
    · refine owes_v (Go.Op.pick (Go.Operand.tmp 32) (Go.Operand.const (Go.Value.bool true)) (Go.Operand.tmp 41)) 4 [20, 29] (by kernel_rfl) (by kernel_rfl) (by kernel_rfl) rfl fun vals w1 ρ hG hF hρ hcst hfun => ?_
      have e32 : ρ (.tmp 32) = .bool false := ((hρ 32).trans (slotJ [20, 29] (by rw [hsz]; decide) (by kernel_rfl))).trans (hF 20 (by decide))
      have e41 : ρ (.tmp 41) = .bool false := ((hρ 41).trans (slotJ [20, 29] (by rw [hsz]; decide) (by kernel_rfl))).trans (hF 29 (by decide))
      clear hρ hF hfun sl0 sl1 sl5 fin
      exact opv_val (by go_simp <;> rfl) ⟨gw_self _, rfl⟩
    · exact owes_mvj 30 42 (by kernel_rfl) (by kernel_rfl) (by kernel_rfl) (by kernel_rfl) (by rw [hsz]; decide) (fun v w h => h)
    · refine owes_vt 31 false (Go.Op.move (Go.Operand.tmp 5)) 22 [] (by kernel_rfl) (by kernel_rfl) (by kernel_rfl) (fun _ _ h => h) (by rw [hsz]; kernel_rfl) (by kernel_rfl) rfl fun vals w1 ρ hG hF hρ hcst hfun => ?_
      have e5 : ρ (.tmp 5) = .slice A5 N c5 := ((hρ 5).trans (slotO [] (by kernel_rfl))).trans sl5
      clear hρ hF hcst hfun sl0 sl1 sl5 fin
      exact opv_val (by go_simp <;> rfl) ⟨gw_self _, rfl⟩
    · refine owes_vt 31 false (Go.Op.call { callee := Go.Callee.builtin Go.Builtin.len, args := #[Go.Operand.tmp 44], argTypes := #[22] }) 3 [32] (by kernel_rfl) (by kernel_rfl) (by kernel_rfl) (fun _ _ h => h) (by rw [hsz]; kernel_rfl) (by kernel_rfl) rfl fun vals w1 ρ hG hF hρ hcst hfun => ?_
      have e44 : ρ (.tmp 44) = .slice A5 N c5 := ((hρ 44).trans (slotJ [32] (by rw [hsz]; decide) (by kernel_rfl))).trans (hF 32 (by decide))
      clear hρ hF hcst hfun sl0 sl1 sl5 fin
      exact opv_val (by go_simp <;> rfl) ⟨gw_self _, rfl⟩
    · refine owes_vt 31 false (Go.Op.move (Go.Operand.tmp 1)) 28 [] (by kernel_rfl) (by kernel_rfl) (by kernel_rfl) (fun _ _ h => h) (by rw [hsz]; kernel_rfl) (by kernel_rfl) rfl fun vals w1 ρ hG hF hρ hcst hfun => ?_
      have e1 : ρ (.tmp 1) = .pointer (some ⟨R, 0, none⟩) := ((hρ 1).trans (slotO [] (by kernel_rfl))).trans sl1
      clear hρ hF hcst hfun sl0 sl1 sl5 fin
      exact opv_val (by go_simp <;> rfl) ⟨gw_self _, rfl⟩
    · refine owes_vt 31 false (Go.Op.nilCheck (Go.Operand.tmp 46)) 0 [34] (by kernel_rfl) (by kernel_rfl) (by kernel_rfl) (fun _ _ h => h) (by rw [hsz]; kernel_rfl) (by kernel_rfl) rfl fun vals w1 ρ hG hF hρ hcst hfun => ?_
      have e46 : ρ (.tmp 46) = .pointer (some ⟨R, 0, none⟩) := ((hρ 46).trans (slotJ [34] (by rw [hsz]; decide) (by kernel_rfl))).trans (hF 34 (by decide))
      clear hρ hF hcst hfun sl0 sl1 sl5 fin
      exact opv_val (by go_simp <;> rfl) ⟨gw_self _, rfl⟩
    · refine owes_vt 31 false (Go.Op.fieldAddr 30 (Go.Operand.tmp 47) 0) 0 [35] (by kernel_rfl) (by kernel_rfl) (by kernel_rfl) (fun _ _ h => h) (by rw [hsz]; kernel_rfl) (by kernel_rfl) rfl fun vals w1 ρ hG hF hρ hcst hfun => ?_
      have e47 : ρ (.tmp 47) = .pointer (some ⟨R, 0, none⟩) := ((hρ 47).trans (slotJ [35] (by rw [hsz]; decide) (by kernel_rfl))).trans (hF 35 (by decide))
      clear hρ hF hcst hfun sl0 sl1 sl5 fin
      exact opv_val (by go_simp <;> rfl) ⟨gw_self _, rfl⟩
    · refine owes_vt 31 false (Go.Op.load 22 (Go.Operand.tmp 48)) 22 [36] (by kernel_rfl) (by kernel_rfl) (by kernel_rfl) (fun _ _ h => h) (by rw [hsz]; kernel_rfl) (by kernel_rfl) rfl fun vals w1 ρ hG hF hρ hcst hfun => ?_
      have e48 : ρ (.tmp 48) = .pointer (some ⟨R, 0, none⟩) := ((hρ 48).trans (slotJ [36] (by rw [hsz]; decide) (by kernel_rfl))).trans (hF 36 (by decide))
      have k := (hr.below hG hr.lt).cell 0
      clear hρ hF hcst hfun sl0 sl1 sl5 fin
      exact opv_val (by go_simp <;> rfl) ⟨gw_self _, rfl⟩
    · refine owes_vt 31 false (Go.Op.call { callee := Go.Callee.builtin Go.Builtin.len, args := #[Go.Operand.tmp 49], argTypes := #[22] }) 3 [37] (by kernel_rfl) (by kernel_rfl) (by kernel_rfl) (fun _ _ h => h) (by rw [hsz]; kernel_rfl) (by kernel_rfl) rfl fun vals w1 ρ hG hF hρ hcst hfun => ?_
      have e49 : ρ (.tmp 49) = .slice A N c := ((hρ 49).trans (slotJ [37] (by rw [hsz]; decide) (by kernel_rfl))).trans (hF 37 (by decide))
      clear hρ hF hcst hfun sl0 sl1 sl5 fin
      exact opv_val (by go_simp <;> rfl) ⟨gw_self _, rfl⟩
    · refine owes_vt 31 false (Go.Op.binOp Go.BinOp.neq 3 (Go.Operand.tmp 45) (Go.Operand.tmp 50) 3) 4 [33, 38] (by kernel_rfl) (by kernel_rfl) (by kernel_rfl) (fun _ _ h => h) (by rw [hsz]; kernel_rfl) (by kernel_rfl) rfl fun vals w1 ρ hG hF hρ hcst hfun => ?_
      have e45 : ρ (.tmp 45) = .int .i64 N := ((hρ 45).trans (slotJ [33, 38] (by rw [hsz]; decide) (by kernel_rfl))).trans (hF 33 (by decide))
      have e50 : ρ (.tmp 50) = .int .i64 N := ((hρ 50).trans (slotJ [33, 38] (by rw [hsz]; decide) (by kernel_rfl))).trans (hF 38 (by decide))
      clear hρ hF hcst hfun sl0 sl1 sl5 fin
      exact opv_val (by go_simp <;> rfl) ⟨gw_self _, rfl⟩
    · refine owes_v (Go.Op.pick (Go.Operand.tmp 43) (Go.Operand.const (Go.Value.bool true)) (Go.Operand.tmp 51)) 4 [31, 39] (by kernel_rfl) (by kernel_rfl) (by kernel_rfl) rfl fun vals w1 ρ hG hF hρ hcst hfun => ?_
      have e43 : ρ (.tmp 43) = .bool false := ((hρ 43).trans (slotJ [31, 39] (by rw [hsz]; decide) (by kernel_rfl))).trans (hF 31 (by decide))
      have e51 : ρ (.tmp 51) = .bool false := ((hρ 51).trans (slotJ [31, 39] (by rw [hsz]; decide) (by kernel_rfl))).trans (hF 39 (by decide))
      clear hρ hF hfun sl0 sl1 sl5 fin
      exact opv_val (by go_simp <;> rfl) ⟨gw_self _, rfl⟩
  · intro vals w1 hG hF
    exact fin vals w1 hG (hF 40 (by decide +kernel))
theorem sm_b (Q : Exit → Act → World → Prop) (a0 : Act) (w : World) (R N c c5 b t e i : Nat) (a ad : Addr) (x : BitVec 64) (hr : Bk w R 30 #[.slice (some a) N c, .int .i64 b, .int .i64 t, .int .i64 e]) (ha : a.block < w.heap.size) (hb : ad.block < w.heap.size) (h1 : w.cell? (a.add i) = some (.int .u64 (U64 x))) (h2 : w.cell? (ad.add i) = some (.int .u64 (U64 x))) (p1 : (0 : Int) ≤ (i : Int)) (p2 : (i : Int) < (N : Int)) (hsz : a0.tmps.size = 97) (sl1 : a0.tmps.getD 1 undef = .pointer (some ⟨R, 0, none⟩)) (sl5 : a0.tmps.getD 5 undef = .slice (some ad) N c5) (sl6 : a0.tmps.getD 6 undef = .int .i64 i)
    (fin : ∀ (vals : Nat → Value) (w1 : World), Below w.heap.size w w1 → (IsV (.bool false)) (vals 11) w1 → Q .normal (putD vals [59, 60, 61, 62, 63, 64, 65, 66, 67, 68, 69, 70] 0 a0) w1) :
    (Code.region 7 (regIn Try.f22 7) true).wp Try.prog Q a0 w := by
  refine region_by (G := fun w w1 => Below w.heap.size w w1) [IsV (.slice (some ad) N c5),
    IsV (.int .i64 i),
    IsV (.pointer (some (ad.add i))),
    IsV (.int .u64 (U64 x)),
    IsV (.pointer (some ⟨R, 0, none⟩)),
    IsV (.pointer (some ⟨R, 0, none⟩)),
    IsV (.pointer (some ⟨R, 0, none⟩)),
    IsV (.slice (some a) N c),
    IsV (.int .i64 i),
    IsV (.pointer (some (a.add i))),
    IsV (.int .u64 (U64 x)),
    IsV (.bool false)]
    [59, 60, 61, 62, 63, 64, 65, 66, 67, 68, 69, 70] (by kernel_rfl) (Gw.drew _) Gw.trans (by rw [hsz]; kernel_rfl) (by kernel_rfl) ?_ ?_ ?_
  · intro f hf
    simp only [List.mem_cons, List.not_mem_nil, or_false] at hf
    rcases hf with rfl | rfl | rfl | rfl | rfl | rfl | rfl | rfl | rfl | rfl | rfl | rfl <;> intro v a b h g <;> first | exact IsV.mono h
  · refine ⟨?_, ?_, ?_, ?_, ?_, ?_, ?_, ?_, ?_, ?_, ?_, ?_, trivial⟩
    · exact owes_mv 5 (by kernel_rfl) (by kernel_rfl) (by kernel_rfl) sl5 (fun _ => rfl)
    · exact owes_mv 6 (by kernel_rfl) (by kernel_rfl) (by kernel_rfl) sl6 (fun _ => rfl)
    · refine owes_v (Go.Op.indexAddr 22 (Go.Operand.tmp 59) (Go.Operand.tmp 60)) 0 [0, 1] (by kernel_rfl) (by kernel_rfl) (by kernel_rfl) rfl fun vals w1 ρ hG hF hρ hcst hfun => ?_
      have e59 : ρ (.tmp 59) = .slice (some ad) N c5 := ((hρ 59).trans (slotJ [0, 1] (by rw [hsz]; decide) (by kernel_rfl))).trans (hF 0 (by decide))
      have e60 : ρ (.tmp 60) = .int .i64 i := ((hρ 60).trans (slotJ [0, 1] (by rw [hsz]; decide) (by kernel_rfl))).trans (hF 1 (by decide))
      clear hρ hF hcst hfun sl1 sl5 sl6 fin
      exact opv_val (by go_simp <;> rfl) ⟨gw_self _, rfl⟩
    · refine owes_v (Go.Op.load 62 (Go.Operand.tmp 61)) 62 [2] (by kernel_rfl) (by kernel_rfl) (by kernel_rfl) rfl fun vals w1 ρ hG hF hρ hcst hfun => ?_
      have e61 : ρ (.tmp 61) = .pointer (some (ad.add i)) := ((hρ 61).trans (slotJ [2] (by rw [hsz]; decide) (by kernel_rfl))).trans (hF 2 (by decide))
      have k := (hG.cell (p := ad.add i) (by rw [add_block]; exact hb)).trans h2
      clear hρ hF hcst hfun sl1 sl5 sl6 fin
      exact opv_val (by go_simp <;> rfl) ⟨gw_self _, rfl⟩
    · exact owes_mv 1 (by kernel_rfl) (by kernel_rfl) (by kernel_rfl) sl1 (fun _ => rfl)
    · refine owes_v (Go.Op.nilCheck (Go.Operand.tmp 63)) 0 [4] (by kernel_rfl) (by kernel_rfl) (by kernel_rfl) rfl fun vals w1 ρ hG hF hρ hcst hfun => ?_
      have e63 : ρ (.tmp 63) = .pointer (some ⟨R, 0, none⟩) := ((hρ 63).trans (slotJ [4] (by rw [hsz]; decide) (by kernel_rfl))).trans (hF 4 (by decide))
      clear hρ hF hcst hfun sl1 sl5 sl6 fin
      exact opv_val (by go_simp <;> rfl) ⟨gw_self _, rfl⟩
    · refine owes_v (Go.Op.fieldAddr 30 (Go.Operand.tmp 64) 0) 0 [5] (by kernel_rfl) (by kernel_rfl) (by kernel_rfl) rfl fun vals w1 ρ hG hF hρ hcst hfun => ?_
      have e64 : ρ (.tmp 64) = .pointer (some ⟨R, 0, none⟩) := ((hρ 64).trans (slotJ [5] (by rw [hsz]; decide) (by kernel_rfl))).trans (hF 5 (by decide))
      clear hρ hF hcst hfun sl1 sl5 sl6 fin
      exact opv_val (by go_simp <;> rfl) ⟨gw_self _, rfl⟩
    · refine owes_v (Go.Op.load 22 (Go.Operand.tmp 65)) 22 [6] (by kernel_rfl) (by kernel_rfl) (by kernel_rfl) rfl fun vals w1 ρ hG hF hρ hcst hfun => ?_
      have e65 : ρ (.tmp 65) = .pointer (some ⟨R, 0, none⟩) := ((hρ 65).trans (slotJ [6] (by rw [hsz]; decide) (by kernel_rfl))).trans (hF 6 (by decide))
      have k := (hr.below hG hr.lt).cell 0
      clear hρ hF hcst hfun sl1 sl5 sl6 fin
      exact opv_val (by go_simp <;> rfl) ⟨gw_self _, rfl⟩
    · exact owes_mv 6 (by kernel_rfl) (by kernel_rfl) (by kernel_rfl) sl6 (fun _ => rfl)
    · refine owes_v (Go.Op.indexAddr 22 (Go.Operand.tmp 66) (Go.Operand.tmp 67)) 0 [7, 8] (by kernel_rfl) (by kernel_rfl) (by kernel_rfl) rfl fun vals w1 ρ hG hF hρ hcst hfun => ?_
      have e66 : ρ (.tmp 66) = .slice (some a) N c := ((hρ 66).trans (slotJ [7, 8] (by rw [hsz]; decide) (by kernel_rfl))).trans (hF 7 (by decide))
      have e67 : ρ (.tmp 67) = .int .i64 i := ((hρ 67).trans (slotJ [7, 8] (by rw [hsz]; decide) (by kernel_rfl))).trans (hF 8 (by decide))
      clear hρ hF hcst hfun sl1 sl5 sl6 fin
      exact opv_val (by go_simp <;> rfl) ⟨gw_self _, rfl⟩
    · refine owes_v (Go.Op.load 62 (Go.Operand.tmp 68)) 62 [9] (by kernel_rfl) (by kernel_rfl) (by kernel_rfl) rfl fun vals w1 ρ hG hF hρ hcst hfun => ?_
      have e68 : ρ (.tmp 68) = .pointer (some (a.add i)) := ((hρ 68).trans (slotJ [9] (by rw [hsz]; decide) (by kernel_rfl))).trans (hF 9 (by decide))
      have k := (hG.cell (p := a.add i) (by rw [add_block]; exact ha)).trans h1
      clear hρ hF hcst hfun sl1 sl5 sl6 fin
      exact opv_val (by go_simp <;> rfl) ⟨gw_self _, rfl⟩
    · refine owes_v (Go.Op.binOp Go.BinOp.neq 62 (Go.Operand.tmp 62) (Go.Operand.tmp 69) 62) 4 [3, 10] (by kernel_rfl) (by kernel_rfl) (by kernel_rfl) rfl fun vals w1 ρ hG hF hρ hcst hfun => ?_
      have e62 : ρ (.tmp 62) = .int .u64 (U64 x) := ((hρ 62).trans (slotJ [3, 10] (by rw [hsz]; decide) (by kernel_rfl))).trans (hF 3 (by decide))
      have e69 : ρ (.tmp 69) = .int .u64 (U64 x) := ((hρ 69).trans (slotJ [3, 10] (by rw [hsz]; decide) (by kernel_rfl))).trans (hF 10 (by decide))
      clear hρ hF hcst hfun sl1 sl5 sl6 fin
      exact opv_val (by go_simp <;> rfl) ⟨gw_self _, rfl⟩
  · intro vals w1 hG hF
    exact fin vals w1 hG (hF 11 (by decide +kernel))
theorem sm_c (Q : Exit → Act → World → Prop) (a0 : Act) (w : World) (B s g R N c b t e u1 u2 : Nat) (v : Value) (A : Option Addr) (ws : List (BitVec 64)) (sp : SpAt w B s g v ws b t e) (hl : ws.length ≤ 100000) (hr : Bk w R 30 #[.slice A N c, .int .i64 b, .int .i64 t, .int .i64 e]) (d1 : (t : Int) - (b : Int) = (u1 : Int)) (d2 : (e : Int) - (t : Int) = (u2 : Int)) (d3 : (u1 : Int) ≤ 100000) (d4 : (u2 : Int) ≤ 100000) (d5 : (0 : Int) ≤ (u1 : Int)) (d6 : (0 : Int) ≤ (u2 : Int)) (f1 : t - b = u1) (f2 : e - t = u2) (hsz : a0.tmps.size = 97) (sl0 : a0.tmps.getD 0 undef = .pointer (some ⟨s, 0, none⟩)) (sl1 : a0.tmps.getD 1 undef = .pointer (some ⟨R, 0, none⟩))
    (fin : ∀ (vals : Nat → Value) (w1 : World), Below w.heap.size w w1 → (IsV (.bool true)) (vals 26) w1 → Q .normal (putD vals [71, 72, 73, 74, 75, 76, 77, 78, 79, 80, 81, 82, 83, 84, 85, 86, 87, 88, 89, 90, 91, 92, 93, 94, 95, 96, 4] 0 a0) w1) :
    (Code.region 9 (regIn Try.f22 9) true).wp Try.prog Q a0 w := by
  refine region_by (G := fun w w1 => Below w.heap.size w w1) [IsV (.pointer (some ⟨s, 0, none⟩)),
    IsV (.int .i64 u1),
    IsV (.pointer (some ⟨R, 0, none⟩)),
    IsV (.pointer (some ⟨R, 0, none⟩)),
    IsV (.pointer (some ⟨R, 2, none⟩)),
    IsV (.int .i64 t),
    IsV (.pointer (some ⟨R, 0, none⟩)),
    IsV (.pointer (some ⟨R, 0, none⟩)),
    IsV (.pointer (some ⟨R, 1, none⟩)),
    IsV (.int .i64 b),
    IsV (.int .i64 u1),
    IsV (.bool true),
    IsV (.bool true),
    IsV (.pointer (some ⟨s, 0, none⟩)),
    IsV (.int .i64 u2),
    IsV (.pointer (some ⟨R, 0, none⟩)),
    IsV (.pointer (some ⟨R, 0, none⟩)),
    IsV (.pointer (some ⟨R, 3, none⟩)),
    IsV (.int .i64 e),
    IsV (.pointer (some ⟨R, 0, none⟩)),
    IsV (.pointer (some ⟨R, 0, none⟩)),
    IsV (.pointer (some ⟨R, 2, none⟩)),
    IsV (.int .i64 t),
    IsV (.int .i64 u2),
    IsV (.bool true),
    IsV (.bool true),
    IsV (.bool true)]
    [71, 72, 73, 74, 75, 76, 77, 78, 79, 80, 81, 82, 83, 84, 85, 86, 87, 88, 89, 90, 91, 92, 93, 94, 95, 96, 4] (by kernel_rfl) (Gw.drew _) Gw.trans (by rw [hsz]; kernel_rfl) (by kernel_rfl) ?_ ?_ ?_
  · intro f hf
    simp only [List.mem_cons, List.not_mem_nil, or_false] at hf
    rcases hf with rfl | rfl | rfl | rfl | rfl | rfl | rfl | rfl | rfl | rfl | rfl | rfl | rfl | rfl | rfl | rfl | rfl | rfl | rfl | rfl | rfl | rfl | rfl | rfl | rfl | rfl | rfl <;> intro v a b h g <;> first | exact IsV.mono h
  · refine ⟨?_, ?_, ?_, ?_, ?_, ?_, ?_, ?_, ?_, ?_, ?_, ?_, ?_, ?_, ?_, ?_, ?_, ?_, ?_, ?_, ?_, ?_, ?_, ?_, ?_, ?_, ?_, trivial⟩
    · exact owes_mv 0 (by kernel_rfl) (by kernel_rfl) (by kernel_rfl) sl0 (fun _ => rfl)
    · refine owes_v (Go.Op.call { callee := Go.Callee.value (Go.Operand.func 48), args := #[Go.Operand.tmp 71], argTypes := #[26] }) 3 [0] (by kernel_rfl) (by kernel_rfl) (by kernel_rfl) rfl fun vals w1 ρ hG hF hρ hcst hfun => ?_
      have e71 : ρ (.tmp 71) = .pointer (some ⟨s, 0, none⟩) := ((hρ 71).trans (slotJ [0] (by rw [hsz]; decide) (by kernel_rfl))).trans (hF 0 (by decide))
      have kf := used_c w1 B s g v ws b t e (sp.below hG) hl
      rw [f1] at kf
      clear hρ hF hcst sl0 sl1 fin
      exact opv_enter (by go_simp <;> rfl) (of_bl kf)
    · exact owes_mv 1 (by kernel_rfl) (by kernel_rfl) (by kernel_rfl) sl1 (fun _ => rfl)
    · refine owes_v (Go.Op.nilCheck (Go.Operand.tmp 73)) 0 [2] (by kernel_rfl) (by kernel_rfl) (by kernel_rfl) rfl fun vals w1 ρ hG hF hρ hcst hfun => ?_
      have e73 : ρ (.tmp 73) = .pointer (some ⟨R, 0, none⟩) := ((hρ 73).trans (slotJ [2] (by rw [hsz]; decide) (by kernel_rfl))).trans (hF 2 (by decide))
      clear hρ hF hcst hfun sl0 sl1 fin
      exact opv_val (by go_simp <;> rfl) ⟨gw_self _, rfl⟩
    · refine owes_v (Go.Op.fieldAddr 30 (Go.Operand.tmp 74) 2) 0 [3] (by kernel_rfl) (by kernel_rfl) (by kernel_rfl) rfl fun vals w1 ρ hG hF hρ hcst hfun => ?_
      have e74 : ρ (.tmp 74) = .pointer (some ⟨R, 0, none⟩) := ((hρ 74).trans (slotJ [3] (by rw [hsz]; decide) (by kernel_rfl))).trans (hF 3 (by decide))
      clear hρ hF hcst hfun sl0 sl1 fin
      exact opv_val (by go_simp <;> rfl) ⟨gw_self _, rfl⟩
    · refine owes_v (Go.Op.load 3 (Go.Operand.tmp 75)) 3 [4] (by kernel_rfl) (by kernel_rfl) (by kernel_rfl) rfl fun vals w1 ρ hG hF hρ hcst hfun => ?_
      have e75 : ρ (.tmp 75) = .pointer (some ⟨R, 2, none⟩) := ((hρ 75).trans (slotJ [4] (by rw [hsz]; decide) (by kernel_rfl))).trans (hF 4 (by decide))
      have k := (hr.below hG hr.lt).cell 2
      clear hρ hF hcst hfun sl0 sl1 fin
      exact opv_val (by go_simp <;> rfl) ⟨gw_self _, rfl⟩
    · exact owes_mv 1 (by kernel_rfl) (by kernel_rfl) (by kernel_rfl) sl1 (fun _ => rfl)
    · refine owes_v (Go.Op.nilCheck (Go.Operand.tmp 77)) 0 [6] (by kernel_rfl) (by kernel_rfl) (by kernel_rfl) rfl fun vals w1 ρ hG hF hρ hcst hfun => ?_
      have e77 : ρ (.tmp 77) = .pointer (some ⟨R, 0, none⟩) := ((hρ 77).trans (slotJ [6] (by rw [hsz]; decide) (by kernel_rfl))).trans (hF 6 (by decide))
      clear hρ hF hcst hfun sl0 sl1 fin
      exact opv_val (by go_simp <;> rfl) ⟨gw_self _, rfl⟩
    · refine owes_v (Go.Op.fieldAddr 30 (Go.Operand.tmp 78) 1) 0 [7] (by kernel_rfl) (by kernel_rfl) (by kernel_rfl) rfl fun vals w1 ρ hG hF hρ hcst hfun => ?_
      have e78 : ρ (.tmp 78) = .pointer (some ⟨R, 0, none⟩) := ((hρ 78).trans (slotJ [7] (by rw [hsz]; decide) (by kernel_rfl))).trans (hF 7 (by decide))
      clear hρ hF hcst hfun sl0 sl1 fin
      exact opv_val (by go_simp <;> rfl) ⟨gw_self _, rfl⟩
    · refine owes_v (Go.Op.load 3 (Go.Operand.tmp 79)) 3 [8] (by kernel_rfl) (by kernel_rfl) (by kernel_rfl) rfl fun vals w1 ρ hG hF hρ hcst hfun => ?_
      have e79 : ρ (.tmp 79) = .pointer (some ⟨R, 1, none⟩) := ((hρ 79).trans (slotJ [8] (by rw [hsz]; decide) (by kernel_rfl))).trans (hF 8 (by decide))
      have k := (hr.below hG hr.lt).cell 1
      clear hρ hF hcst hfun sl0 sl1 fin
      exact opv_val (by go_simp <;> rfl) ⟨gw_self _, rfl⟩
    · refine owes_v (Go.Op.binOp Go.BinOp.sub 3 (Go.Operand.tmp 76) (Go.Operand.tmp 80) 3) 3 [5, 9] (by kernel_rfl) (by kernel_rfl) (by kernel_rfl) rfl fun vals w1 ρ hG hF hρ hcst hfun => ?_
      have e76 : ρ (.tmp 76) = .int .i64 t := ((hρ 76).trans (slotJ [5, 9] (by rw [hsz]; decide) (by kernel_rfl))).trans (hF 5 (by decide))
      have e80 : ρ (.tmp 80) = .int .i64 b := ((hρ 80).trans (slotJ [5, 9] (by rw [hsz]; decide) (by kernel_rfl))).trans (hF 9 (by decide))
      have kw0 : IntKind.i64.wrap ((u1 : Int)) = (u1 : Int) := wrapIn (by omega) (by omega)
      clear hρ hF hcst hfun sl0 sl1 fin
      exact opv_val (by go_simp <;> rfl) ⟨gw_self _, rfl⟩
    · refine owes_v (Go.Op.binOp Go.BinOp.eql 3 (Go.Operand.tmp 72) (Go.Operand.tmp 81) 3) 4 [1, 10] (by kernel_rfl) (by kernel_rfl) (by kernel_rfl) rfl fun vals w1 ρ hG hF hρ hcst hfun => ?_
      have e72 : ρ (.tmp 72) = .int .i64 u1 := ((hρ 72).trans (slotJ [1, 10] (by rw [hsz]; decide) (by kernel_rfl))).trans (hF 1 (by decide))
      have e81 : ρ (.tmp 81) = .int .i64 u1 := ((hρ 81).trans (slotJ [1, 10] (by rw [hsz]; decide) (by kernel_rfl))).trans (hF 10 (by decide))
      clear hρ hF hcst hfun sl0 sl1 fin
      exact opv_val (by go_simp <;> rfl) ⟨gw_self _, rfl⟩
    · exact owes_mvj 11 82 (by kernel_rfl) (by kernel_rfl) (by kernel_rfl) (by kernel_rfl) (by rw [hsz]; decide) (fun v w h => h)
    · refine owes_vt 12 true (Go.Op.move (Go.Operand.tmp 0)) 26 [] (by kernel_rfl) (by kernel_rfl) (by kernel_rfl) (fun _ _ h => h) (by rw [hsz]; kernel_rfl) (by kernel_rfl) rfl fun vals w1 ρ hG hF hρ hcst hfun => ?_
      have e0 : ρ (.tmp 0) = .pointer (some ⟨s, 0, none⟩) := ((hρ 0).trans (slotO [] (by kernel_rfl))).trans sl0
      clear hρ hF hcst hfun sl0 sl1 fin
      exact opv_val (by go_simp <;> rfl) ⟨gw_self _, rfl⟩
    · refine owes_vt 12 true (Go.Op.call { callee := Go.Callee.value (Go.Operand.func 49), args := #[Go.Operand.tmp 84], argTypes := #[26] }) 3 [13] (by kernel_rfl) (by kernel_rfl) (by kernel_rfl) (fun _ _ h => h) (by rw [hsz]; kernel_rfl) (by kernel_rfl) rfl fun vals w1 ρ hG hF hρ hcst hfun => ?_
      have e84 : ρ (.tmp 84) = .pointer (some ⟨s, 0, none⟩) := ((hρ 84).trans (slotJ [13] (by rw [hsz]; decide) (by kernel_rfl))).trans (hF 13 (by decide))
      have kf := free_c w1 B s g v ws b t e (sp.below hG) hl
      rw [f2] at kf
      clear hρ hF hcst sl0 sl1 fin
      exact opv_enter (by go_simp <;> rfl) (of_bl kf)
    · refine owes_vt 12 true (Go.Op.move (Go.Operand.tmp 1)) 28 [] (by kernel_rfl) (by kernel_rfl) (by kernel_rfl) (fun _ _ h => h) (by rw [hsz]; kernel_rfl) (by kernel_rfl) rfl fun vals w1 ρ hG hF hρ hcst hfun => ?_
      have e1 : ρ (.tmp 1) = .pointer (some ⟨R, 0, none⟩) := ((hρ 1).trans (slotO [] (by kernel_rfl))).trans sl1
      clear hρ hF hcst hfun sl0 sl1 fin
      exact opv_val (by go_simp <;> rfl) ⟨gw_self _, rfl⟩
    · refine owes_vt 12 true (Go.Op.nilCheck (Go.Operand.tmp 86)) 0 [15] (by kernel_rfl) (by kernel_rfl) (by kernel_rfl) (fun _ _ h => h) (by rw [hsz]; kernel_rfl) (by kernel_rfl) rfl fun vals w1 ρ hG hF hρ hcst hfun => ?_
      have e86 : ρ (.tmp 86) = .pointer (some ⟨R, 0, none⟩) := ((hρ 86).trans (slotJ [15] (by rw [hsz]; decide) (by kernel_rfl))).trans (hF 15 (by decide))
      clear hρ hF hcst hfun sl0 sl1 fin
      exact opv_val (by go_simp <;> rfl) ⟨gw_self _, rfl⟩
    · refine owes_vt 12 true (Go.Op.fieldAddr 30 (Go.Operand.tmp 87) 3) 0 [16] (by kernel_rfl) (by kernel_rfl) (by kernel_rfl) (fun _ _ h => h) (by rw [hsz]; kernel_rfl) (by kernel_rfl) rfl fun vals w1 ρ hG hF hρ hcst hfun => ?_
      have e87 : ρ (.tmp 87) = .pointer (some ⟨R, 0, none⟩) := ((hρ 87).trans (slotJ [16] (by rw [hsz]; decide) (by kernel_rfl))).trans (hF 16 (by decide))
      clear hρ hF hcst hfun sl0 sl1 fin
      exact opv_val (by go_simp <;> rfl) ⟨gw_self _, rfl⟩
    · refine owes_vt 12 true (Go.Op.load 3 (Go.Operand.tmp 88)) 3 [17] (by kernel_rfl) (by kernel_rfl) (by kernel_rfl) (fun _ _ h => h) (by rw [hsz]; kernel_rfl) (by kernel_rfl) rfl fun vals w1 ρ hG hF hρ hcst hfun => ?_
      have e88 : ρ (.tmp 88) = .pointer (some ⟨R, 3, none⟩) := ((hρ 88).trans (slotJ [17] (by rw [hsz]; decide) (by kernel_rfl))).trans (hF 17 (by decide))
      have k := (hr.below hG hr.lt).cell 3
      clear hρ hF hcst hfun sl0 sl1 fin
      exact opv_val (by go_simp <;> rfl) ⟨gw_self _, rfl⟩
    · refine owes_vt 12 true (Go.Op.move (Go.Operand.tmp 1)) 28 [] (by kernel_rfl) (by kernel_rfl) (by kernel_rfl) (fun _ _ h => h) (by rw [hsz]; kernel_rfl) (by kernel_rfl) rfl fun vals w1 ρ hG hF hρ hcst hfun => ?_
      have e1 : ρ (.tmp 1) = .pointer (some ⟨R, 0, none⟩) := ((hρ 1).trans (slotO [] (by kernel_rfl))).trans sl1
      clear hρ hF hcst hfun sl0 sl1 fin
      exact opv_val (by go_simp <;> rfl) ⟨gw_self _, rfl⟩
    · refine owes_vt 12 true (Go.Op.nilCheck (Go.Operand.tmp 90)) 0 [19] (by kernel_rfl) (by kernel_rfl) (by kernel_rfl) (fun _ _ h => h) (by rw [hsz]; kernel_rfl) (by kernel_rfl) rfl fun vals w1 ρ hG hF hρ hcst hfun => ?_
      have e90 : ρ (.tmp 90) = .pointer (some ⟨R, 0, none⟩) := ((hρ 90).trans (slotJ [19] (by rw [hsz]; decide) (by kernel_rfl))).trans (hF 19 (by decide))
      clear hρ hF hcst hfun sl0 sl1 fin
      exact opv_val (by go_simp <;> rfl) ⟨gw_self _, rfl⟩
    · refine owes_vt 12 true (Go.Op.fieldAddr 30 (Go.Operand.tmp 91) 2) 0 [20] (by kernel_rfl) (by kernel_rfl) (by kernel_rfl) (fun _ _ h => h) (by rw [hsz]; kernel_rfl) (by kernel_rfl) rfl fun vals w1 ρ hG hF hρ hcst hfun => ?_
      have e91 : ρ (.tmp 91) = .pointer (some ⟨R, 0, none⟩) := ((hρ 91).trans (slotJ [20] (by rw [hsz]; decide) (by kernel_rfl))).trans (hF 20 (by decide))
      clear hρ hF hcst hfun sl0 sl1 fin
      exact opv_val (by go_simp <;> rfl) ⟨gw_self _, rfl⟩
    · refine owes_vt 12 true (Go.Op.load 3 (Go.Operand.tmp 92)) 3 [21] (by kernel_rfl) (by kernel_rfl) (by kernel_rfl) (fun _ _ h => h) (by rw [hsz]; kernel_rfl) (by kernel_rfl) rfl fun vals w1 ρ hG hF hρ hcst hfun => ?_
      have e92 : ρ (.tmp 92) = .pointer (some ⟨R, 2, none⟩) := ((hρ 92).trans (slotJ [21] (by rw [hsz]; decide) (by kernel_rfl))).trans (hF 21 (by decide))
      have k := (hr.below hG hr.lt).cell 2
      clear hρ hF hcst hfun sl0 sl1 fin
      exact opv_val (by go_simp <;> rfl) ⟨gw_self _, rfl⟩
    · refine owes_vt 12 true (Go.Op.binOp Go.BinOp.sub 3 (Go.Operand.tmp 89) (Go.Operand.tmp 93) 3) 3 [18, 22] (by kernel_rfl) (by kernel_rfl) (by kernel_rfl) (fun _ _ h => h) (by rw [hsz]; kernel_rfl) (by kernel_rfl) rfl fun vals w1 ρ hG hF hρ hcst hfun => ?_
      have e89 : ρ (.tmp 89) = .int .i64 e := ((hρ 89).trans (slotJ [18, 22] (by rw [hsz]; decide) (by kernel_rfl))).trans (hF 18 (by decide))
      have e93 : ρ (.tmp 93) = .int .i64 t := ((hρ 93).trans (slotJ [18, 22] (by rw [hsz]; decide) (by kernel_rfl))).trans (hF 22 (by decide))
      have kw0 : IntKind.i64.wrap ((u2 : Int)) = (u2 : Int) := wrapIn (by omega) (by omega)
      clear hρ hF hcst hfun sl0 sl1 fin
      exact opv_val (by go_simp <;> rfl) ⟨gw_self _, rfl⟩
    · refine owes_vt 12 true (Go.Op.binOp Go.BinOp.eql 3 (Go.Operand.tmp 85) (Go.Operand.tmp 94) 3) 4 [14, 23] (by kernel_rfl) (by kernel_rfl) (by kernel_rfl) (fun _ _ h => h) (by rw [hsz]; kernel_rfl) (by kernel_rfl) rfl fun vals w1 ρ hG hF hρ hcst hfun => ?_
      have e85 : ρ (.tmp 85) = .int .i64 u2 := ((hρ 85).trans (slotJ [14, 23] (by rw [hsz]; decide) (by kernel_rfl))).trans (hF 14 (by decide))
      have e94 : ρ (.tmp 94) = .int .i64 u2 := ((hρ 94).trans (slotJ [14, 23] (by rw [hsz]; decide) (by kernel_rfl))).trans (hF 23 (by decide))
      clear hρ hF hcst hfun sl0 sl1 fin
      exact opv_val (by go_simp <;> rfl) ⟨gw_self _, rfl⟩
    · refine owes_v (Go.Op.pick (Go.Operand.tmp 83) (Go.Operand.tmp 95) (Go.Operand.const (Go.Value.bool false))) 4 [12, 24] (by kernel_rfl) (by kernel_rfl) (by kernel_rfl) rfl fun vals w1 ρ hG hF hρ hcst hfun => ?_
      have e83 : ρ (.tmp 83) = .bool true := ((hρ 83).trans (slotJ [12, 24] (by rw [hsz]; decide) (by kernel_rfl))).trans (hF 12 (by decide))
      have e95 : ρ (.tmp 95) = .bool true := ((hρ 95).trans (slotJ [12, 24] (by rw [hsz]; decide) (by kernel_rfl))).trans (hF 24 (by decide))
      clear hρ hF hfun sl0 sl1 fin
      exact opv_val (by go_simp <;> rfl) ⟨gw_self _, rfl⟩
    · exact owes_mvj 25 96 (by kernel_rfl) (by kernel_rfl) (by kernel_rfl) (by kernel_rfl) (by rw [hsz]; decide) (fun v w h => h)
  · intro vals w1 hG hF
    exact fin vals w1 hG (hF 26 (by decide +kernel))
end Go.Proofs.Ytbanbpphadgoiaa
