/- space: Of; loamlaw15's Mem, ints, Same. Conditions: lengths. -/
import Derived.Test.YtaminpfgkegibaaSpG
namespace Go.Proofs.Ytaminpfgkegibaa
set_option linter.unusedVariables false
set_option linter.unusedSimpArgs false
open Go.RowKit
set_option maxHeartbeats 400000
set_option maxRecDepth 100000
theorem mem15_c (w : World) (A : Option Addr) (c : Nat) (ws : List (BitVec 64)) (hr : Rd u64v w w.heap.size A ws) (hl : ws.length ≤ 8192) :
    Calls Try.prog 34 #[.slice A ws.length c] w fun e w' => ∃ g v, e = .returned (.pointer (some ⟨g, 0, none⟩)) ∧ MemAt w' w.heap.size g v ws ∧ Below w.heap.size w w' := by
  have HO := Lib.hid (of_in w A c ws hr hl)
  obtain ⟨N, hN⟩ : ∃ N, N = ws.length := ⟨_, rfl⟩
  rw [← hN] at HO ⊢
  clear hr hl hN
  go_enter Try.func34, Try.ntmps34
  go_wp2_with fail
  refine Calls.mono HO.out ?_
  rintro r w1 ⟨g, v, rfl, h1, b1⟩
  have H1 := Lib.hid (And.intro h1 b1)
  clear h1 b1
  go_wp2_with fail
  go_ret
  exact ⟨g, v, rfl, H1.out.1, H1.out.2⟩
theorem sof_out (w : World) (m : Value) (b t e : Int) (hb : Calls Try.prog 69 #[m, .int .i64 b, .int .i64 t, .int .i64 e] w fun r w' => r = .returned (.tuple #[.pointer none, .int .i64 1]) ∧ w' = w) :
    Calls Try.prog 33 #[m, .int .i64 b, .int .i64 t, .int .i64 e] w fun r w' => r = .returned (.tuple #[.pointer none, .int .i64 1]) ∧ w' = w := by
  have HB := Lib.hid hb
  clear hb
  go_enter Try.func33, Try.ntmps33
  go_wp2_with fail
  refine Calls.mono HB.out ?_
  rintro r w1 ⟨rfl, rfl⟩
  go_wp2_with fail
  go_ret2
  exact ⟨rfl, rfl⟩
theorem sof_none (w : World) (B g : Nat) (v : Value) (ws : List (BitVec 64)) (b t e : Nat) (h : MemAt w B g v ws) (hbt : b ≤ t) (hte : t ≤ e) (hel : e ≤ ws.length) (hl : ws.length ≤ 100000) (ho : objF ws t (t + 1) b = none) :
    Calls Try.prog 33 #[.pointer (some ⟨g, 0, none⟩), .int .i64 b, .int .i64 t, .int .i64 e] w (RetP (.tuple #[.pointer none, .int .i64 2]) w) := by
  have HB := Lib.hid (bare_in w B g v ws b t e h hbt hte hel hl)
  have HO := Lib.hid (fun W s (p : SpAt W B s g v ws b t e) => objects_c W B s g v ws b t e p hl)
  rw [ho] at HO
  clear h hbt hte hel hl ho
  go_enter Try.func33, Try.ntmps33
  go_wp2_with fail
  refine Calls.mono HB.out ?_
  rintro r w1 ⟨s, rfl, h1, b1⟩
  have H1 := Lib.hid (And.intro h1 b1)
  clear h1 b1
  go_wp2_with fail
  refine Calls.mono (HO.out w1 s H1.out.1) ?_
  rintro r w2 ⟨rfl, b2⟩
  have H2 := Lib.hid (H1.out.2.trans (b2.mono H1.out.2.size))
  clear b2
  go_wp2_with fail
  go_ret2
  exact ⟨rfl, H2.out⟩
theorem sof_some (w : World) (B g : Nat) (v : Value) (ws : List (BitVec 64)) (b t e : Nat) (h : MemAt w B g v ws) (hbt : b ≤ t) (hte : t ≤ e) (hel : e ≤ ws.length) (hl : ws.length ≤ 100000) (l : List Nat) (ho : objF ws t (t + 1) b = some l) :
    Calls Try.prog 33 #[.pointer (some ⟨g, 0, none⟩), .int .i64 b, .int .i64 t, .int .i64 e] w fun r w' => ∃ s, r = .returned (.tuple #[.pointer (some ⟨s, 0, none⟩), .int .i64 0]) ∧ SpAt w' B s g v ws b t e ∧ Below w.heap.size w w' := by
  have HB := Lib.hid (bare_in w B g v ws b t e h hbt hte hel hl)
  have HO := Lib.hid (fun W s (p : SpAt W B s g v ws b t e) => objects_c W B s g v ws b t e p hl)
  rw [ho] at HO
  clear h hbt hte hel hl ho
  go_enter Try.func33, Try.ntmps33
  go_wp2_with fail
  refine Calls.mono HB.out ?_
  rintro r w1 ⟨s, rfl, h1, b1⟩
  have H1 := Lib.hid (And.intro h1 b1)
  clear h1 b1
  go_wp2_with fail
  refine Calls.mono (HO.out w1 s H1.out.1) ?_
  rintro r w2 ⟨A2, c2, rfl, _, _, b2⟩
  have H2 := Lib.hid (And.intro (H1.out.1.below b2) (H1.out.2.trans (b2.mono H1.out.2.size)))
  clear b2
  go_wp2_with fail
  go_ret2
  exact ⟨s, rfl, H2.out.1, H2.out.2⟩
theorem of_bl {P : Program} {f : FuncId} {args : Array Value} {v : Value} {w : World} (h : Calls P f args w fun r w' => r = .returned v ∧ Below w.heap.size w w') : Calls P f args w fun e w2 => ∃ u, e = .returned u ∧ Below w.heap.size w w2 ∧ IsV v u w2 :=
  h.mono fun _ _ h => ⟨_, h.1, h.2, rfl⟩
end Go.Proofs.Ytaminpfgkegibaa
