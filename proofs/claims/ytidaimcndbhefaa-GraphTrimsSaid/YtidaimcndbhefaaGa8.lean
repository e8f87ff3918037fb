/- Texts joined: GuD GuE GuF GuH GuG OpenZ GuI GuJ. -/
import Derived.Test.YtidaimcndbhefaaGa7
import Derived.Deep.Grids
/- The reference's Walk. Conditions: lengths; all pointers are some node's or 0. -/
namespace Go.Proofs.Ytidaimcndbhefaa
set_option linter.unusedVariables false
set_option linter.unusedSimpArgs false
open Go.RowKit Go.Maps
/-- What the walk has: what is seen is what it listed. -/
structure Wk (ns : List Nv) (fr : List Int) (seen : List Bool) (out : List Int) : Prop where
  len : seen.length = ns.length + 1
  iff : ∀ p : Nat, p ≤ ns.length → (seen[p]? = some true ↔ (p : Int) ∈ out)
  nd : out.Nodup
  ok : ∀ p ∈ out, Rch ns fr p
  cnt : seen.count false + out.length = ns.length + 1
theorem Wk.start (ns : List Nv) (fr : List Int) : Wk ns fr (List.replicate (ns.length + 1) false) [] :=
  ⟨List.length_replicate, fun p hp => by rw [List.getElem?_replicate, if_pos (by omega)]; simp, List.nodup_nil, fun p hp => (by cases hp), by simp⟩
section
variable {ns : List Nv} {fr : List Int} {seen : List Bool} {out : List Int}
theorem Wk.push (h : Wk ns fr seen out) {n : Nat} (hn : n ≤ ns.length) (hs : seen[n]? = some false) (hr : Rch ns fr (n : Int)) : Wk ns fr (seen.set n true) (out ++ [(n : Int)]) := by
  have hno : (n : Int) ∉ out := fun e => by have := (h.iff n hn).2 e; rw [hs] at this; cases this
  refine ⟨by rw [List.length_set]; exact h.len, fun p hp => ?_, ?_, fun p hp => ?_, ?_⟩
  · rw [List.getElem?_set, List.mem_append, List.mem_singleton]
    by_cases e : n = p
    · subst e
      rw [if_pos rfl, if_pos (by rw [h.len]; omega)]; simp
    · rw [if_neg e, h.iff p hp]
      constructor
      · exact .inl
      · rintro (h1 | h1)
        · exact h1
        · exact absurd (by omega) e
  · rw [List.nodup_append]
    exact ⟨h.nd, by simp, fun a ha b hb e => by rw [List.mem_singleton] at hb; subst hb; subst e; exact hno ha⟩
  · rcases List.mem_append.1 hp with hp | hp
    · exact h.ok p hp
    · rw [List.mem_singleton.1 hp]; exact hr
  · have h1 := count_set seen n hs
    have h2 := h.cnt
    rw [List.length_append, List.length_singleton]
    omega
theorem Wk.le (h : Wk ns fr seen out) : out.length ≤ ns.length + 1 := by have := h.cnt; omega
theorem Wk.get (h : Wk ns fr seen out) {n : Nat} (hn : n ≤ ns.length) : ∃ y, seen[n]? = some y ∧ (y = true ↔ (n : Int) ∈ out) := by
  have hl : n < seen.length := by rw [h.len]; omega
  refine ⟨seen[n], List.getElem?_eq_getElem hl, ?_⟩
  rw [← h.iff n hn, List.getElem?_eq_getElem hl]; simp
/-- All that is listed is done: it is all that is reached. -/
theorem Wk.done (h : Wk ns fr seen out) (h1 : ∀ q ∈ fr, hasG ns.length q = true → q ∈ out) (h2 : ∀ p ∈ out, ∀ q ∈ ptrsG ns p, hasG ns.length q = true → q ∈ out) : ∀ p, p ∈ out ↔ Rch ns fr p := fun p => by
  refine ⟨h.ok p, fun hr => ?_⟩
  induction hr with
  | base p h3 h4 => exact h1 p h3 h4
  | step p q h3 h4 h5 ih => exact h2 p ih q h4 h5
end
theorem own_ne {W : World} {b b2 q n c : Nat} {L : List Bool} {v : Value} {xs : List Int} (h1 : Ow tV 4 W b (.slice (some ⟨q, 0, none⟩) n c) L) (h2 : Ow iV 3 W b2 v xs) : v.ownBlock ≠ some q := by
  intro e
  rcases h2.2 with ⟨e2, _⟩ | ⟨g, cap, cur, e2, _, hh, _⟩
  · rw [e2] at e; cases e
  · rw [e2] at e
    injection e with e
    have e3 : g = q := e
    obtain ⟨cs, m, hq⟩ := ow_blk2 h1
    exact type_ne2 hq hh (by decide) e3.symm
set_option maxHeartbeats 4000000
set_option maxRecDepth 100000
theorem wka_r (Q : Exit → Act → World → Prop) (a0 : Act) (w : World) (a : Addr) (F c k : Nat) (x : Int) (hs : Hid (∀ W, Below w.heap.size w W → W.cell? (a.add k) = some (.int .i64 x))) (hx : x < 1) (p1 : (0 : Int) ≤ (k : Int)) (p2 : (k : Int) < (F : Int)) (hsz : a0.tmps.size = 111) (sl1 : a0.tmps.getD 1 undef = .slice (some a) F c) (sl7 : a0.tmps.getD 7 undef = .int .i64 k)
    (fin : ∀ (vals : Nat → Value) (w1 : World), Below w.heap.size w w1 → (IsV (.bool false)) (vals 24) w1 → Q .normal (putD vals [22, 23, 24, 25, 26, 27, 28, 29, 30, 31, 32, 33, 34, 35, 36, 37, 38, 39, 40, 41, 42, 43, 44, 45, 46] 0 a0) w1) :
    (Code.region 6 (regIn Try.f14 6) true).wp Try.prog Q a0 w := by
  refine region_by (G := fun w w1 => Below w.heap.size w w1) [IsV (.slice (some a) F c),
    IsV (.int .i64 k),
    IsV (.pointer (some (a.add k))),
    IsV (.int .i64 x),
    IsV (.bool false),
    IsV (.bool false),
    IsV undef,
    IsV undef,
    IsV undef,
    IsV undef,
    IsV undef,
    IsV undef,
    IsV undef,
    IsV undef,
    IsV (.bool false),
    IsV (.bool false),
    IsV undef,
    IsV undef,
    IsV undef,
    IsV undef,
    IsV undef,
    IsV undef,
    IsV undef,
    IsV undef,
    IsV (.bool false)]
    [22, 23, 24, 25, 26, 27, 28, 29, 30, 31, 32, 33, 34, 35, 36, 37, 38, 39, 40, 41, 42, 43, 44, 45, 46] (by kernel_rfl) (Gw.drew _) Gw.trans (by rw [hsz]; kernel_rfl) (by kernel_rfl) ?_ ?_ ?_
  · intro f hf
    simp only [List.mem_cons, List.not_mem_nil, or_false] at hf
    rcases hf with rfl | rfl | rfl | rfl | rfl | rfl | rfl | rfl | rfl | rfl | rfl | rfl | rfl | rfl | rfl | rfl | rfl | rfl | rfl | rfl | rfl | rfl | rfl | rfl | rfl <;> intro v a b h g <;> first | exact IsV.mono h
  · refine ⟨?_, ?_, ?_, ?_, ?_, ?_, ?_, ?_, ?_, ?_, ?_, ?_, ?_, ?_, ?_, ?_, ?_, ?_, ?_, ?_, ?_, ?_, ?_, ?_, ?_, trivial⟩
    · exact owes_mv 1 (by kernel_rfl) (by kernel_rfl) (by kernel_rfl) sl1 (fun _ => rfl)
    · exact owes_mv 7 (by kernel_rfl) (by kernel_rfl) (by kernel_rfl) sl7 (fun _ => rfl)
    · refine owes_v (Go.Op.indexAddr 26 (Go.Operand.tmp 22) (Go.Operand.tmp 23)) 0 [0, 1] (by kernel_rfl) (by kernel_rfl) (by kernel_rfl) rfl fun vals w1 ρ hG hF hρ hcst hfun => ?_
      have e22 : ρ (.tmp 22) = .slice (some a) F c := ((hρ 22).trans (slotJ [0, 1] (by rw [hsz]; decide) (by kernel_rfl))).trans (hF 0 (by decide))
      have e23 : ρ (.tmp 23) = .int .i64 k := ((hρ 23).trans (slotJ [0, 1] (by rw [hsz]; decide) (by kernel_rfl))).trans (hF 1 (by decide))
      clear hρ hF hcst hfun sl1 sl7 fin
      exact opv_val (by go_simp <;> rfl) ⟨gw_self _, rfl⟩
    · refine owes_v (Go.Op.load 3 (Go.Operand.tmp 24)) 3 [2] (by kernel_rfl) (by kernel_rfl) (by kernel_rfl) rfl fun vals w1 ρ hG hF hρ hcst hfun => ?_
      have e24 : ρ (.tmp 24) = .pointer (some (a.add k)) := ((hρ 24).trans (slotJ [2] (by rw [hsz]; decide) (by kernel_rfl))).trans (hF 2 (by decide))
      have k := hs.out w1 hG
      clear hρ hF hcst hfun sl1 sl7 fin
      exact opv_val (by go_simp <;> rfl) ⟨gw_self _, rfl⟩
    · refine owes_v (Go.Op.binOp Go.BinOp.geq 3 (Go.Operand.tmp 25) (Go.Operand.const (Go.Value.int Go.IntKind.i64 1)) 3) 4 [3] (by kernel_rfl) (by kernel_rfl) (by kernel_rfl) rfl fun vals w1 ρ hG hF hρ hcst hfun => ?_
      have e25 : ρ (.tmp 25) = .int .i64 x := ((hρ 25).trans (slotJ [3] (by rw [hsz]; decide) (by kernel_rfl))).trans (hF 3 (by decide))
      have k := hx
      clear hρ hF hfun sl1 sl7 fin
      exact opv_val (by go_simp <;> rfl) ⟨gw_self _, rfl⟩
    · exact owes_mvj 4 26 (by kernel_rfl) (by kernel_rfl) (by kernel_rfl) (by kernel_rfl) (by rw [hsz]; decide) (fun v w h => h)
    · exact owes_no 5 false true (by decide) (by kernel_rfl) (by kernel_rfl) (fun _ _ h => h) (by rw [hsz]; kernel_rfl) (fun _ => rfl)
    · exact owes_no 5 false true (by decide) (by kernel_rfl) (by kernel_rfl) (fun _ _ h => h) (by rw [hsz]; kernel_rfl) (fun _ => rfl)
    · exact owes_no 5 false true (by decide) (by kernel_rfl) (by kernel_rfl) (fun _ _ h => h) (by rw [hsz]; kernel_rfl) (fun _ => rfl)
    · exact owes_no 5 false true (by decide) (by kernel_rfl) (by kernel_rfl) (fun _ _ h => h) (by rw [hsz]; kernel_rfl) (fun _ => rfl)
    · exact owes_no 5 false true (by decide) (by kernel_rfl) (by kernel_rfl) (fun _ _ h => h) (by rw [hsz]; kernel_rfl) (fun _ => rfl)
    · exact owes_no 5 false true (by decide) (by kernel_rfl) (by kernel_rfl) (fun _ _ h => h) (by rw [hsz]; kernel_rfl) (fun _ => rfl)
    · exact owes_no 5 false true (by decide) (by kernel_rfl) (by kernel_rfl) (fun _ _ h => h) (by rw [hsz]; kernel_rfl) (fun _ => rfl)
    · exact owes_no 5 false true (by decide) (by kernel_rfl) (by kernel_rfl) (fun _ _ h => h) (by rw [hsz]; kernel_rfl) (fun _ => rfl)
    · refine owes_v (Go.Op.pick (Go.Operand.tmp 27) (Go.Operand.tmp 35) (Go.Operand.const (Go.Value.bool false))) 4 [5, 13] (by kernel_rfl) (by kernel_rfl) (by kernel_rfl) rfl fun vals w1 ρ hG hF hρ hcst hfun => ?_
      have e27 : ρ (.tmp 27) = .bool false := ((hρ 27).trans (slotJ [5, 13] (by rw [hsz]; decide) (by kernel_rfl))).trans (hF 5 (by decide))
      have e35 : ρ (.tmp 35) = undef := ((hρ 35).trans (slotJ [5, 13] (by rw [hsz]; decide) (by kernel_rfl))).trans (hF 13 (by decide))
      clear hρ hF hfun sl1 sl7 fin
      exact opv_val (by go_simp <;> rfl) ⟨gw_self _, rfl⟩
    · exact owes_mvj 14 36 (by kernel_rfl) (by kernel_rfl) (by kernel_rfl) (by kernel_rfl) (by rw [hsz]; decide) (fun v w h => h)
    · exact owes_no 15 false true (by decide) (by kernel_rfl) (by kernel_rfl) (fun _ _ h => h) (by rw [hsz]; kernel_rfl) (fun _ => rfl)
    · exact owes_no 15 false true (by decide) (by kernel_rfl) (by kernel_rfl) (fun _ _ h => h) (by rw [hsz]; kernel_rfl) (fun _ => rfl)
    · exact owes_no 15 false true (by decide) (by kernel_rfl) (by kernel_rfl) (fun _ _ h => h) (by rw [hsz]; kernel_rfl) (fun _ => rfl)
    · exact owes_no 15 false true (by decide) (by kernel_rfl) (by kernel_rfl) (fun _ _ h => h) (by rw [hsz]; kernel_rfl) (fun _ => rfl)
    · exact owes_no 15 false true (by decide) (by kernel_rfl) (by kernel_rfl) (fun _ _ h => h) (by rw [hsz]; kernel_rfl) (fun _ => rfl)
    · exact owes_no 15 false true (by decide) (by kernel_rfl) (by kernel_rfl) (fun _ _ h => h) (by rw [hsz]; kernel_rfl) (fun _ => rfl)
    · exact owes_no 15 false true (by decide) (by kernel_rfl) (by kernel_rfl) (fun _ _ h => h) (by rw [hsz]; kernel_rfl) (fun _ => rfl)
    · exact owes_no 15 false true (by decide) (by kernel_rfl) (by kernel_rfl) (fun _ _ h => h) (by rw [hsz]; kernel_rfl) (fun _ => rfl)
    · refine owes_v (Go.Op.pick (Go.Operand.tmp 37) (Go.Operand.tmp 45) (Go.Operand.const (Go.Value.bool false))) 4 [15, 23] (by kernel_rfl) (by kernel_rfl) (by kernel_rfl) rfl fun vals w1 ρ hG hF hρ hcst hfun => ?_
      have e37 : ρ (.tmp 37) = .bool false := ((hρ 37).trans (slotJ [15, 23] (by rw [hsz]; decide) (by kernel_rfl))).trans (hF 15 (by decide))
      have e45 : ρ (.tmp 45) = undef := ((hρ 45).trans (slotJ [15, 23] (by rw [hsz]; decide) (by kernel_rfl))).trans (hF 23 (by decide))
      clear hρ hF hfun sl1 sl7 fin
      exact opv_val (by go_simp <;> rfl) ⟨gw_self _, rfl⟩
  · intro vals w1 hG hF
    exact fin vals w1 hG (hF 24 (by decide +kernel))
theorem wkb_r (Q : Exit → Act → World → Prop) (a0 : Act) (w : World) (a : Addr) (F c k gb N cn : Nat) (A : Option Addr) (x : Int) (hs : Hid (∀ W, Below w.heap.size w W → W.cell? (a.add k) = some (.int .i64 x) ∧ W.cell? ⟨gb, 0, none⟩ = some (.slice A N cn))) (hx : 1 ≤ x) (hy : (N : Int) < x) (p1 : (0 : Int) ≤ (k : Int)) (p2 : (k : Int) < (F : Int)) (hsz : a0.tmps.size = 111) (sl1 : a0.tmps.getD 1 undef = .slice (some a) F c) (sl2 : a0.tmps.getD 2 undef = .pointer (some ⟨gb, 0, none⟩)) (sl7 : a0.tmps.getD 7 undef = .int .i64 k)
    (fin : ∀ (vals : Nat → Value) (w1 : World), Below w.heap.size w w1 → (IsV (.bool false)) (vals 24) w1 → Q .normal (putD vals [22, 23, 24, 25, 26, 27, 28, 29, 30, 31, 32, 33, 34, 35, 36, 37, 38, 39, 40, 41, 42, 43, 44, 45, 46] 0 a0) w1) :
    (Code.region 6 (regIn Try.f14 6) true).wp Try.prog Q a0 w := by
  refine region_by (G := fun w w1 => Below w.heap.size w w1) [IsV (.slice (some a) F c),
    IsV (.int .i64 k),
    IsV (.pointer (some (a.add k))),
    IsV (.int .i64 x),
    IsV (.bool true),
    IsV (.bool true),
    IsV (.slice (some a) F c),
    IsV (.int .i64 k),
    IsV (.pointer (some (a.add k))),
    IsV (.int .i64 x),
    IsV (.pointer (some ⟨gb, 0, none⟩)),
    IsV (.slice A N cn),
    IsV (.int .i64 N),
    IsV (.bool false),
    IsV (.bool false),
    IsV (.bool false),
    IsV undef,
    IsV undef,
    IsV undef,
    IsV undef,
    IsV undef,
    IsV undef,
    IsV undef,
    IsV undef,
    IsV (.bool false)]
    [22, 23, 24, 25, 26, 27, 28, 29, 30, 31, 32, 33, 34, 35, 36, 37, 38, 39, 40, 41, 42, 43, 44, 45, 46] (by kernel_rfl) (Gw.drew _) Gw.trans (by rw [hsz]; kernel_rfl) (by kernel_rfl) ?_ ?_ ?_
  · intro f hf
    simp only [List.mem_cons, List.not_mem_nil, or_false] at hf
    rcases hf with rfl | rfl | rfl | rfl | rfl | rfl | rfl | rfl | rfl | rfl | rfl | rfl | rfl | rfl | rfl | rfl | rfl | rfl | rfl | rfl | rfl | rfl | rfl | rfl | rfl <;> intro v a b h g <;> first | exact IsV.mono h
  · refine ⟨?_, ?_, ?_, ?_, ?_, ?_, ?_, ?_, ?_, ?_, ?_, ?_, ?_, ?_, ?_, ?_, ?_, ?_, ?_, ?_, ?_, ?_, ?_, ?_, ?_, trivial⟩
    · exact owes_mv 1 (by kernel_rfl) (by kernel_rfl) (by kernel_rfl) sl1 (fun _ => rfl)
    · exact owes_mv 7 (by kernel_rfl) (by kernel_rfl) (by kernel_rfl) sl7 (fun _ => rfl)
    · refine owes_v (Go.Op.indexAddr 26 (Go.Operand.tmp 22) (Go.Operand.tmp 23)) 0 [0, 1] (by kernel_rfl) (by kernel_rfl) (by kernel_rfl) rfl fun vals w1 ρ hG hF hρ hcst hfun => ?_
      have e22 : ρ (.tmp 22) = .slice (some a) F c := ((hρ 22).trans (slotJ [0, 1] (by rw [hsz]; decide) (by kernel_rfl))).trans (hF 0 (by decide))
      have e23 : ρ (.tmp 23) = .int .i64 k := ((hρ 23).trans (slotJ [0, 1] (by rw [hsz]; decide) (by kernel_rfl))).trans (hF 1 (by decide))
      clear hρ hF hcst hfun sl1 sl2 sl7 fin
      exact opv_val (by go_simp <;> rfl) ⟨gw_self _, rfl⟩
    · refine owes_v (Go.Op.load 3 (Go.Operand.tmp 24)) 3 [2] (by kernel_rfl) (by kernel_rfl) (by kernel_rfl) rfl fun vals w1 ρ hG hF hρ hcst hfun => ?_
      have e24 : ρ (.tmp 24) = .pointer (some (a.add k)) := ((hρ 24).trans (slotJ [2] (by rw [hsz]; decide) (by kernel_rfl))).trans (hF 2 (by decide))
      have k := (hs.out w1 hG).1
      clear hρ hF hcst hfun sl1 sl2 sl7 fin
      exact opv_val (by go_simp <;> rfl) ⟨gw_self _, rfl⟩
    · refine owes_v (Go.Op.binOp Go.BinOp.geq 3 (Go.Operand.tmp 25) (Go.Operand.const (Go.Value.int Go.IntKind.i64 1)) 3) 4 [3] (by kernel_rfl) (by kernel_rfl) (by kernel_rfl) rfl fun vals w1 ρ hG hF hρ hcst hfun => ?_
      have e25 : ρ (.tmp 25) = .int .i64 x := ((hρ 25).trans (slotJ [3] (by rw [hsz]; decide) (by kernel_rfl))).trans (hF 3 (by decide))
      have k := hx
      clear hρ hF hfun sl1 sl2 sl7 fin
      exact opv_val (by go_simp <;> rfl) ⟨gw_self _, rfl⟩
    · exact owes_mvj 4 26 (by kernel_rfl) (by kernel_rfl) (by kernel_rfl) (by kernel_rfl) (by rw [hsz]; decide) (fun v w h => h)
    · refine owes_vt 5 true (Go.Op.move (Go.Operand.tmp 1)) 26 [] (by kernel_rfl) (by kernel_rfl) (by kernel_rfl) (fun _ _ h => h) (by rw [hsz]; kernel_rfl) (by kernel_rfl) rfl fun vals w1 ρ hG hF hρ hcst hfun => ?_
      have e1 : ρ (.tmp 1) = .slice (some a) F c := ((hρ 1).trans (slotO [] (by kernel_rfl))).trans sl1
      clear hρ hF hcst hfun sl1 sl2 sl7 fin
      exact opv_val (by go_simp <;> rfl) ⟨gw_self _, rfl⟩
    · refine owes_vt 5 true (Go.Op.move (Go.Operand.tmp 7)) 3 [] (by kernel_rfl) (by kernel_rfl) (by kernel_rfl) (fun _ _ h => h) (by rw [hsz]; kernel_rfl) (by kernel_rfl) rfl fun vals w1 ρ hG hF hρ hcst hfun => ?_
      have e7 : ρ (.tmp 7) = .int .i64 k := ((hρ 7).trans (slotO [] (by kernel_rfl))).trans sl7
      clear hρ hF hcst hfun sl1 sl2 sl7 fin
      exact opv_val (by go_simp <;> rfl) ⟨gw_self _, rfl⟩
    · refine owes_vt 5 true (Go.Op.indexAddr 26 (Go.Operand.tmp 28) (Go.Operand.tmp 29)) 0 [6, 7] (by kernel_rfl) (by kernel_rfl) (by kernel_rfl) (fun _ _ h => h) (by rw [hsz]; kernel_rfl) (by kernel_rfl) rfl fun vals w1 ρ hG hF hρ hcst hfun => ?_
      have e28 : ρ (.tmp 28) = .slice (some a) F c := ((hρ 28).trans (slotJ [6, 7] (by rw [hsz]; decide) (by kernel_rfl))).trans (hF 6 (by decide))
      have e29 : ρ (.tmp 29) = .int .i64 k := ((hρ 29).trans (slotJ [6, 7] (by rw [hsz]; decide) (by kernel_rfl))).trans (hF 7 (by decide))
      clear hρ hF hcst hfun sl1 sl2 sl7 fin
      exact opv_val (by go_simp <;> rfl) ⟨gw_self _, rfl⟩
    · refine owes_vt 5 true (Go.Op.load 3 (Go.Operand.tmp 30)) 3 [8] (by kernel_rfl) (by kernel_rfl) (by kernel_rfl) (fun _ _ h => h) (by rw [hsz]; kernel_rfl) (by kernel_rfl) rfl fun vals w1 ρ hG hF hρ hcst hfun => ?_
      have e30 : ρ (.tmp 30) = .pointer (some (a.add k)) := ((hρ 30).trans (slotJ [8] (by rw [hsz]; decide) (by kernel_rfl))).trans (hF 8 (by decide))
      have k := (hs.out w1 hG).1
      clear hρ hF hcst hfun sl1 sl2 sl7 fin
      exact opv_val (by go_simp <;> rfl) ⟨gw_self _, rfl⟩
    · refine owes_vt 5 true (Go.Op.fieldAddr 32 (Go.Operand.tmp 2) 0) 0 [] (by kernel_rfl) (by kernel_rfl) (by kernel_rfl) (fun _ _ h => h) (by rw [hsz]; kernel_rfl) (by kernel_rfl) rfl fun vals w1 ρ hG hF hρ hcst hfun => ?_
      have e2 : ρ (.tmp 2) = .pointer (some ⟨gb, 0, none⟩) := ((hρ 2).trans (slotO [] (by kernel_rfl))).trans sl2
      clear hρ hF hcst hfun sl1 sl2 sl7 fin
      exact opv_val (by go_simp <;> rfl) ⟨gw_self _, rfl⟩
    · refine owes_vt 5 true (Go.Op.load 29 (Go.Operand.tmp 32)) 29 [10] (by kernel_rfl) (by kernel_rfl) (by kernel_rfl) (fun _ _ h => h) (by rw [hsz]; kernel_rfl) (by kernel_rfl) rfl fun vals w1 ρ hG hF hρ hcst hfun => ?_
      have e32 : ρ (.tmp 32) = .pointer (some ⟨gb, 0, none⟩) := ((hρ 32).trans (slotJ [10] (by rw [hsz]; decide) (by kernel_rfl))).trans (hF 10 (by decide))
      have k := (hs.out w1 hG).2
      clear hρ hF hcst hfun sl1 sl2 sl7 fin
      exact opv_val (by go_simp <;> rfl) ⟨gw_self _, rfl⟩
    · refine owes_vt 5 true (Go.Op.call { callee := Go.Callee.builtin Go.Builtin.len, args := #[Go.Operand.tmp 33], argTypes := #[29] }) 3 [11] (by kernel_rfl) (by kernel_rfl) (by kernel_rfl) (fun _ _ h => h) (by rw [hsz]; kernel_rfl) (by kernel_rfl) rfl fun vals w1 ρ hG hF hρ hcst hfun => ?_
      have e33 : ρ (.tmp 33) = .slice A N cn := ((hρ 33).trans (slotJ [11] (by rw [hsz]; decide) (by kernel_rfl))).trans (hF 11 (by decide))
      clear hρ hF hcst hfun sl1 sl2 sl7 fin
      exact opv_val (by go_simp <;> rfl) ⟨gw_self _, rfl⟩
    · refine owes_vt 5 true (Go.Op.binOp Go.BinOp.leq 3 (Go.Operand.tmp 31) (Go.Operand.tmp 34) 3) 4 [9, 12] (by kernel_rfl) (by kernel_rfl) (by kernel_rfl) (fun _ _ h => h) (by rw [hsz]; kernel_rfl) (by kernel_rfl) rfl fun vals w1 ρ hG hF hρ hcst hfun => ?_
      have e31 : ρ (.tmp 31) = .int .i64 x := ((hρ 31).trans (slotJ [9, 12] (by rw [hsz]; decide) (by kernel_rfl))).trans (hF 9 (by decide))
      have e34 : ρ (.tmp 34) = .int .i64 N := ((hρ 34).trans (slotJ [9, 12] (by rw [hsz]; decide) (by kernel_rfl))).trans (hF 12 (by decide))
      have k := hy
      clear hρ hF hcst hfun sl1 sl2 sl7 fin
      exact opv_val (by go_simp <;> rfl) ⟨gw_self _, rfl⟩
    · refine owes_v (Go.Op.pick (Go.Operand.tmp 27) (Go.Operand.tmp 35) (Go.Operand.const (Go.Value.bool false))) 4 [5, 13] (by kernel_rfl) (by kernel_rfl) (by kernel_rfl) rfl fun vals w1 ρ hG hF hρ hcst hfun => ?_
      have e27 : ρ (.tmp 27) = .bool true := ((hρ 27).trans (slotJ [5, 13] (by rw [hsz]; decide) (by kernel_rfl))).trans (hF 5 (by decide))
      have e35 : ρ (.tmp 35) = .bool false := ((hρ 35).trans (slotJ [5, 13] (by rw [hsz]; decide) (by kernel_rfl))).trans (hF 13 (by decide))
      clear hρ hF hfun sl1 sl2 sl7 fin
      exact opv_val (by go_simp <;> rfl) ⟨gw_self _, rfl⟩
    · exact owes_mvj 14 36 (by kernel_rfl) (by kernel_rfl) (by kernel_rfl) (by kernel_rfl) (by rw [hsz]; decide) (fun v w h => h)
    · exact owes_no 15 false true (by decide) (by kernel_rfl) (by kernel_rfl) (fun _ _ h => h) (by rw [hsz]; kernel_rfl) (fun _ => rfl)
    · exact owes_no 15 false true (by decide) (by kernel_rfl) (by kernel_rfl) (fun _ _ h => h) (by rw [hsz]; kernel_rfl) (fun _ => rfl)
    · exact owes_no 15 false true (by decide) (by kernel_rfl) (by kernel_rfl) (fun _ _ h => h) (by rw [hsz]; kernel_rfl) (fun _ => rfl)
    · exact owes_no 15 false true (by decide) (by kernel_rfl) (by kernel_rfl) (fun _ _ h => h) (by rw [hsz]; kernel_rfl) (fun _ => rfl)
    · exact owes_no 15 false true (by decide) (by kernel_rfl) (by kernel_rfl) (fun _ _ h => h) (by rw [hsz]; kernel_rfl) (fun _ => rfl)
    · exact owes_no 15 false true (by decide) (by kernel_rfl) (by kernel_rfl) (fun _ _ h => h) (by rw [hsz]; kernel_rfl) (fun _ => rfl)
    · exact owes_no 15 false true (by decide) (by kernel_rfl) (by kernel_rfl) (fun _ _ h => h) (by rw [hsz]; kernel_rfl) (fun _ => rfl)
    · exact owes_no 15 false true (by decide) (by kernel_rfl) (by kernel_rfl) (fun _ _ h => h) (by rw [hsz]; kernel_rfl) (fun _ => rfl)
    · refine owes_v (Go.Op.pick (Go.Operand.tmp 37) (Go.Operand.tmp 45) (Go.Operand.const (Go.Value.bool false))) 4 [15, 23] (by kernel_rfl) (by kernel_rfl) (by kernel_rfl) rfl fun vals w1 ρ hG hF hρ hcst hfun => ?_
      have e37 : ρ (.tmp 37) = .bool false := ((hρ 37).trans (slotJ [15, 23] (by rw [hsz]; decide) (by kernel_rfl))).trans (hF 15 (by decide))
      have e45 : ρ (.tmp 45) = undef := ((hρ 45).trans (slotJ [15, 23] (by rw [hsz]; decide) (by kernel_rfl))).trans (hF 23 (by decide))
      clear hρ hF hfun sl1 sl2 sl7 fin
      exact opv_val (by go_simp <;> rfl) ⟨gw_self _, rfl⟩
  · intro vals w1 hG hF
    exact fin vals w1 hG (hF 24 (by decide +kernel))
theorem wkc_r (Q : Exit → Act → World → Prop) (a0 : Act) (w : World) (a : Addr) (F c k gb N cn q n N1 : Nat) (A : Option Addr) (y : Bool) (hs : Hid (∀ W, Below w.heap.size w W → W.cell? (a.add k) = some (.int .i64 n) ∧ W.cell? ⟨gb, 0, none⟩ = some (.slice A N cn) ∧ W.cell? ⟨q, n, none⟩ = some (.bool y))) (hx : (1 : Int) ≤ (n : Int)) (hy : (n : Int) ≤ (N : Int)) (hz : (n : Int) < (N1 : Int)) (p1 : (0 : Int) ≤ (k : Int)) (p2 : (k : Int) < (F : Int)) (hsz : a0.tmps.size = 111) (sl1 : a0.tmps.getD 1 undef = .slice (some a) F c) (sl2 : a0.tmps.getD 2 undef = .pointer (some ⟨gb, 0, none⟩)) (sl5 : a0.tmps.getD 5 undef = .slice (some ⟨q, 0, none⟩) N1 N1) (sl7 : a0.tmps.getD 7 undef = .int .i64 k)
    (fin : ∀ (vals : Nat → Value) (w1 : World), Below w.heap.size w w1 → (IsV (.bool (!y))) (vals 24) w1 → Q .normal (putD vals [22, 23, 24, 25, 26, 27, 28, 29, 30, 31, 32, 33, 34, 35, 36, 37, 38, 39, 40, 41, 42, 43, 44, 45, 46] 0 a0) w1) :
    (Code.region 6 (regIn Try.f14 6) true).wp Try.prog Q a0 w := by
  refine region_by (G := fun w w1 => Below w.heap.size w w1) [IsV (.slice (some a) F c),
    IsV (.int .i64 k),
    IsV (.pointer (some (a.add k))),
    IsV (.int .i64 n),
    IsV (.bool true),
    IsV (.bool true),
    IsV (.slice (some a) F c),
    IsV (.int .i64 k),
    IsV (.pointer (some (a.add k))),
    IsV (.int .i64 n),
    IsV (.pointer (some ⟨gb, 0, none⟩)),
    IsV (.slice A N cn),
    IsV (.int .i64 N),
    IsV (.bool true),
    IsV (.bool true),
    IsV (.bool true),
    IsV (.slice (some ⟨q, 0, none⟩) N1 N1),
    IsV (.slice (some a) F c),
    IsV (.int .i64 k),
    IsV (.pointer (some (a.add k))),
    IsV (.int .i64 n),
    IsV (.pointer (some ⟨q, n, none⟩)),
    IsV (.bool y),
    IsV (.bool (!y)),
    IsV (.bool (!y))]
    [22, 23, 24, 25, 26, 27, 28, 29, 30, 31, 32, 33, 34, 35, 36, 37, 38, 39, 40, 41, 42, 43, 44, 45, 46] (by kernel_rfl) (Gw.drew _) Gw.trans (by rw [hsz]; kernel_rfl) (by kernel_rfl) ?_ ?_ ?_
  · intro f hf
    simp only [List.mem_cons, List.not_mem_nil, or_false] at hf
    rcases hf with rfl | rfl | rfl | rfl | rfl | rfl | rfl | rfl | rfl | rfl | rfl | rfl | rfl | rfl | rfl | rfl | rfl | rfl | rfl | rfl | rfl | rfl | rfl | rfl | rfl <;> intro v a b h g <;> first | exact IsV.mono h
  · refine ⟨?_, ?_, ?_, ?_, ?_, ?_, ?_, ?_, ?_, ?_, ?_, ?_, ?_, ?_, ?_, ?_, ?_, ?_, ?_, ?_, ?_, ?_, ?_, ?_, ?_, trivial⟩
    · exact owes_mv 1 (by kernel_rfl) (by kernel_rfl) (by kernel_rfl) sl1 (fun _ => rfl)
    · exact owes_mv 7 (by kernel_rfl) (by kernel_rfl) (by kernel_rfl) sl7 (fun _ => rfl)
    · refine owes_v (Go.Op.indexAddr 26 (Go.Operand.tmp 22) (Go.Operand.tmp 23)) 0 [0, 1] (by kernel_rfl) (by kernel_rfl) (by kernel_rfl) rfl fun vals w1 ρ hG hF hρ hcst hfun => ?_
      have e22 : ρ (.tmp 22) = .slice (some a) F c := ((hρ 22).trans (slotJ [0, 1] (by rw [hsz]; decide) (by kernel_rfl))).trans (hF 0 (by decide))
      have e23 : ρ (.tmp 23) = .int .i64 k := ((hρ 23).trans (slotJ [0, 1] (by rw [hsz]; decide) (by kernel_rfl))).trans (hF 1 (by decide))
      clear hρ hF hcst hfun sl1 sl2 sl5 sl7 fin
      exact opv_val (by go_simp <;> rfl) ⟨gw_self _, rfl⟩
    · refine owes_v (Go.Op.load 3 (Go.Operand.tmp 24)) 3 [2] (by kernel_rfl) (by kernel_rfl) (by kernel_rfl) rfl fun vals w1 ρ hG hF hρ hcst hfun => ?_
      have e24 : ρ (.tmp 24) = .pointer (some (a.add k)) := ((hρ 24).trans (slotJ [2] (by rw [hsz]; decide) (by kernel_rfl))).trans (hF 2 (by decide))
      have k := (hs.out w1 hG).1
      clear hρ hF hcst hfun sl1 sl2 sl5 sl7 fin
      exact opv_val (by go_simp <;> rfl) ⟨gw_self _, rfl⟩
    · refine owes_v (Go.Op.binOp Go.BinOp.geq 3 (Go.Operand.tmp 25) (Go.Operand.const (Go.Value.int Go.IntKind.i64 1)) 3) 4 [3] (by kernel_rfl) (by kernel_rfl) (by kernel_rfl) rfl fun vals w1 ρ hG hF hρ hcst hfun => ?_
      have e25 : ρ (.tmp 25) = .int .i64 n := ((hρ 25).trans (slotJ [3] (by rw [hsz]; decide) (by kernel_rfl))).trans (hF 3 (by decide))
      have k := hx
      clear hρ hF hfun sl1 sl2 sl5 sl7 fin
      exact opv_val (by go_simp <;> rfl) ⟨gw_self _, rfl⟩
    · exact owes_mvj 4 26 (by kernel_rfl) (by kernel_rfl) (by kernel_rfl) (by kernel_rfl) (by rw [hsz]; decide) (fun v w h => h)
    · refine owes_vt 5 true (Go.Op.move (Go.Operand.tmp 1)) 26 [] (by kernel_rfl) (by kernel_rfl) (by kernel_rfl) (fun _ _ h => h) (by rw [hsz]; kernel_rfl) (by kernel_rfl) rfl fun vals w1 ρ hG hF hρ hcst hfun => ?_
      have e1 : ρ (.tmp 1) = .slice (some a) F c := ((hρ 1).trans (slotO [] (by kernel_rfl))).trans sl1
      clear hρ hF hcst hfun sl1 sl2 sl5 sl7 fin
      exact opv_val (by go_simp <;> rfl) ⟨gw_self _, rfl⟩
    · refine owes_vt 5 true (Go.Op.move (Go.Operand.tmp 7)) 3 [] (by kernel_rfl) (by kernel_rfl) (by kernel_rfl) (fun _ _ h => h) (by rw [hsz]; kernel_rfl) (by kernel_rfl) rfl fun vals w1 ρ hG hF hρ hcst hfun => ?_
      have e7 : ρ (.tmp 7) = .int .i64 k := ((hρ 7).trans (slotO [] (by kernel_rfl))).trans sl7
      clear hρ hF hcst hfun sl1 sl2 sl5 sl7 fin
      exact opv_val (by go_simp <;> rfl) ⟨gw_self _, rfl⟩
    · refine owes_vt 5 true (Go.Op.indexAddr 26 (Go.Operand.tmp 28) (Go.Operand.tmp 29)) 0 [6, 7] (by kernel_rfl) (by kernel_rfl) (by kernel_rfl) (fun _ _ h => h) (by rw [hsz]; kernel_rfl) (by kernel_rfl) rfl fun vals w1 ρ hG hF hρ hcst hfun => ?_
      have e28 : ρ (.tmp 28) = .slice (some a) F c := ((hρ 28).trans (slotJ [6, 7] (by rw [hsz]; decide) (by kernel_rfl))).trans (hF 6 (by decide))
      have e29 : ρ (.tmp 29) = .int .i64 k := ((hρ 29).trans (slotJ [6, 7] (by rw [hsz]; decide) (by kernel_rfl))).trans (hF 7 (by decide))
      clear hρ hF hcst hfun sl1 sl2 sl5 sl7 fin
      exact opv_val (by go_simp <;> rfl) ⟨gw_self _, rfl⟩
    · refine owes_vt 5 true (Go.Op.load 3 (Go.Operand.tmp 30)) 3 [8] (by kernel_rfl) (by kernel_rfl) (by kernel_rfl) (fun _ _ h => h) (by rw [hsz]; kernel_rfl) (by kernel_rfl) rfl fun vals w1 ρ hG hF hρ hcst hfun => ?_
      have e30 : ρ (.tmp 30) = .pointer (some (a.add k)) := ((hρ 30).trans (slotJ [8] (by rw [hsz]; decide) (by kernel_rfl))).trans (hF 8 (by decide))
      have k := (hs.out w1 hG).1
      clear hρ hF hcst hfun sl1 sl2 sl5 sl7 fin
      exact opv_val (by go_simp <;> rfl) ⟨gw_self _, rfl⟩
    · refine owes_vt 5 true (Go.Op.fieldAddr 32 (Go.Operand.tmp 2) 0) 0 [] (by kernel_rfl) (by kernel_rfl) (by kernel_rfl) (fun _ _ h => h) (by rw [hsz]; kernel_rfl) (by kernel_rfl) rfl fun vals w1 ρ hG hF hρ hcst hfun => ?_
      have e2 : ρ (.tmp 2) = .pointer (some ⟨gb, 0, none⟩) := ((hρ 2).trans (slotO [] (by kernel_rfl))).trans sl2
      clear hρ hF hcst hfun sl1 sl2 sl5 sl7 fin
      exact opv_val (by go_simp <;> rfl) ⟨gw_self _, rfl⟩
    · refine owes_vt 5 true (Go.Op.load 29 (Go.Operand.tmp 32)) 29 [10] (by kernel_rfl) (by kernel_rfl) (by kernel_rfl) (fun _ _ h => h) (by rw [hsz]; kernel_rfl) (by kernel_rfl) rfl fun vals w1 ρ hG hF hρ hcst hfun => ?_
      have e32 : ρ (.tmp 32) = .pointer (some ⟨gb, 0, none⟩) := ((hρ 32).trans (slotJ [10] (by rw [hsz]; decide) (by kernel_rfl))).trans (hF 10 (by decide))
      have k := (hs.out w1 hG).2.1
      clear hρ hF hcst hfun sl1 sl2 sl5 sl7 fin
      exact opv_val (by go_simp <;> rfl) ⟨gw_self _, rfl⟩
    · refine owes_vt 5 true (Go.Op.call { callee := Go.Callee.builtin Go.Builtin.len, args := #[Go.Operand.tmp 33], argTypes := #[29] }) 3 [11] (by kernel_rfl) (by kernel_rfl) (by kernel_rfl) (fun _ _ h => h) (by rw [hsz]; kernel_rfl) (by kernel_rfl) rfl fun vals w1 ρ hG hF hρ hcst hfun => ?_
      have e33 : ρ (.tmp 33) = .slice A N cn := ((hρ 33).trans (slotJ [11] (by rw [hsz]; decide) (by kernel_rfl))).trans (hF 11 (by decide))
      clear hρ hF hcst hfun sl1 sl2 sl5 sl7 fin
      exact opv_val (by go_simp <;> rfl) ⟨gw_self _, rfl⟩
    · refine owes_vt 5 true (Go.Op.binOp Go.BinOp.leq 3 (Go.Operand.tmp 31) (Go.Operand.tmp 34) 3) 4 [9, 12] (by kernel_rfl) (by kernel_rfl) (by kernel_rfl) (fun _ _ h => h) (by rw [hsz]; kernel_rfl) (by kernel_rfl) rfl fun vals w1 ρ hG hF hρ hcst hfun => ?_
      have e31 : ρ (.tmp 31) = .int .i64 n := ((hρ 31).trans (slotJ [9, 12] (by rw [hsz]; decide) (by kernel_rfl))).trans (hF 9 (by decide))
      have e34 : ρ (.tmp 34) = .int .i64 N := ((hρ 34).trans (slotJ [9, 12] (by rw [hsz]; decide) (by kernel_rfl))).trans (hF 12 (by decide))
      have k := hy
      clear hρ hF hcst hfun sl1 sl2 sl5 sl7 fin
      exact opv_val (by go_simp <;> rfl) ⟨gw_self _, rfl⟩
    · refine owes_v (Go.Op.pick (Go.Operand.tmp 27) (Go.Operand.tmp 35) (Go.Operand.const (Go.Value.bool false))) 4 [5, 13] (by kernel_rfl) (by kernel_rfl) (by kernel_rfl) rfl fun vals w1 ρ hG hF hρ hcst hfun => ?_
      have e27 : ρ (.tmp 27) = .bool true := ((hρ 27).trans (slotJ [5, 13] (by rw [hsz]; decide) (by kernel_rfl))).trans (hF 5 (by decide))
      have e35 : ρ (.tmp 35) = .bool true := ((hρ 35).trans (slotJ [5, 13] (by rw [hsz]; decide) (by kernel_rfl))).trans (hF 13 (by decide))
      clear hρ hF hfun sl1 sl2 sl5 sl7 fin
      exact opv_val (by go_simp <;> rfl) ⟨gw_self _, rfl⟩
    · exact owes_mvj 14 36 (by kernel_rfl) (by kernel_rfl) (by kernel_rfl) (by kernel_rfl) (by rw [hsz]; decide) (fun v w h => h)
    · refine owes_vt 15 true (Go.Op.move (Go.Operand.tmp 5)) 37 [] (by kernel_rfl) (by kernel_rfl) (by kernel_rfl) (fun _ _ h => h) (by rw [hsz]; kernel_rfl) (by kernel_rfl) rfl fun vals w1 ρ hG hF hρ hcst hfun => ?_
      have e5 : ρ (.tmp 5) = .slice (some ⟨q, 0, none⟩) N1 N1 := ((hρ 5).trans (slotO [] (by kernel_rfl))).trans sl5
      clear hρ hF hcst hfun sl1 sl2 sl5 sl7 fin
      exact opv_val (by go_simp <;> rfl) ⟨gw_self _, rfl⟩
    · refine owes_vt 15 true (Go.Op.move (Go.Operand.tmp 1)) 26 [] (by kernel_rfl) (by kernel_rfl) (by kernel_rfl) (fun _ _ h => h) (by rw [hsz]; kernel_rfl) (by kernel_rfl) rfl fun vals w1 ρ hG hF hρ hcst hfun => ?_
      have e1 : ρ (.tmp 1) = .slice (some a) F c := ((hρ 1).trans (slotO [] (by kernel_rfl))).trans sl1
      clear hρ hF hcst hfun sl1 sl2 sl5 sl7 fin
      exact opv_val (by go_simp <;> rfl) ⟨gw_self _, rfl⟩
    · refine owes_vt 15 true (Go.Op.move (Go.Operand.tmp 7)) 3 [] (by kernel_rfl) (by kernel_rfl) (by kernel_rfl) (fun _ _ h => h) (by rw [hsz]; kernel_rfl) (by kernel_rfl) rfl fun vals w1 ρ hG hF hρ hcst hfun => ?_
      have e7 : ρ (.tmp 7) = .int .i64 k := ((hρ 7).trans (slotO [] (by kernel_rfl))).trans sl7
      clear hρ hF hcst hfun sl1 sl2 sl5 sl7 fin
      exact opv_val (by go_simp <;> rfl) ⟨gw_self _, rfl⟩
    · refine owes_vt 15 true (Go.Op.indexAddr 26 (Go.Operand.tmp 39) (Go.Operand.tmp 40)) 0 [17, 18] (by kernel_rfl) (by kernel_rfl) (by kernel_rfl) (fun _ _ h => h) (by rw [hsz]; kernel_rfl) (by kernel_rfl) rfl fun vals w1 ρ hG hF hρ hcst hfun => ?_
      have e39 : ρ (.tmp 39) = .slice (some a) F c := ((hρ 39).trans (slotJ [17, 18] (by rw [hsz]; decide) (by kernel_rfl))).trans (hF 17 (by decide))
      have e40 : ρ (.tmp 40) = .int .i64 k := ((hρ 40).trans (slotJ [17, 18] (by rw [hsz]; decide) (by kernel_rfl))).trans (hF 18 (by decide))
      clear hρ hF hcst hfun sl1 sl2 sl5 sl7 fin
      exact opv_val (by go_simp <;> rfl) ⟨gw_self _, rfl⟩
    · refine owes_vt 15 true (Go.Op.load 3 (Go.Operand.tmp 41)) 3 [19] (by kernel_rfl) (by kernel_rfl) (by kernel_rfl) (fun _ _ h => h) (by rw [hsz]; kernel_rfl) (by kernel_rfl) rfl fun vals w1 ρ hG hF hρ hcst hfun => ?_
      have e41 : ρ (.tmp 41) = .pointer (some (a.add k)) := ((hρ 41).trans (slotJ [19] (by rw [hsz]; decide) (by kernel_rfl))).trans (hF 19 (by decide))
      have k := (hs.out w1 hG).1
      clear hρ hF hcst hfun sl1 sl2 sl5 sl7 fin
      exact opv_val (by go_simp <;> rfl) ⟨gw_self _, rfl⟩
    · refine owes_vt 15 true (Go.Op.indexAddr 37 (Go.Operand.tmp 38) (Go.Operand.tmp 42)) 0 [16, 20] (by kernel_rfl) (by kernel_rfl) (by kernel_rfl) (fun _ _ h => h) (by rw [hsz]; kernel_rfl) (by kernel_rfl) rfl fun vals w1 ρ hG hF hρ hcst hfun => ?_
      have e38 : ρ (.tmp 38) = .slice (some ⟨q, 0, none⟩) N1 N1 := ((hρ 38).trans (slotJ [16, 20] (by rw [hsz]; decide) (by kernel_rfl))).trans (hF 16 (by decide))
      have e42 : ρ (.tmp 42) = .int .i64 n := ((hρ 42).trans (slotJ [16, 20] (by rw [hsz]; decide) (by kernel_rfl))).trans (hF 20 (by decide))
      have k0 : (0 : Int) ≤ (n : Int) := by omega
      clear hρ hF hcst hfun sl1 sl2 sl5 sl7 fin
      exact opv_val (by go_simp <;> rfl) ⟨gw_self _, rfl⟩
    · refine owes_vt 15 true (Go.Op.load 4 (Go.Operand.tmp 43)) 4 [21] (by kernel_rfl) (by kernel_rfl) (by kernel_rfl) (fun _ _ h => h) (by rw [hsz]; kernel_rfl) (by kernel_rfl) rfl fun vals w1 ρ hG hF hρ hcst hfun => ?_
      have e43 : ρ (.tmp 43) = .pointer (some ⟨q, n, none⟩) := ((hρ 43).trans (slotJ [21] (by rw [hsz]; decide) (by kernel_rfl))).trans (hF 21 (by decide))
      have k := (hs.out w1 hG).2.2
      clear hρ hF hcst hfun sl1 sl2 sl5 sl7 fin
      exact opv_val (by go_simp <;> rfl) ⟨gw_self _, rfl⟩
    · refine owes_vt 15 true (Go.Op.unOp Go.UnOp.not 4 (Go.Operand.tmp 44)) 4 [22] (by kernel_rfl) (by kernel_rfl) (by kernel_rfl) (fun _ _ h => h) (by rw [hsz]; kernel_rfl) (by kernel_rfl) rfl fun vals w1 ρ hG hF hρ hcst hfun => ?_
      have e44 : ρ (.tmp 44) = .bool y := ((hρ 44).trans (slotJ [22] (by rw [hsz]; decide) (by kernel_rfl))).trans (hF 22 (by decide))
      clear hρ hF hcst hfun sl1 sl2 sl5 sl7 fin
      exact opv_val (by go_simp <;> rfl) ⟨gw_self _, rfl⟩
    · refine owes_v (Go.Op.pick (Go.Operand.tmp 37) (Go.Operand.tmp 45) (Go.Operand.const (Go.Value.bool false))) 4 [15, 23] (by kernel_rfl) (by kernel_rfl) (by kernel_rfl) rfl fun vals w1 ρ hG hF hρ hcst hfun => ?_
      have e37 : ρ (.tmp 37) = .bool true := ((hρ 37).trans (slotJ [15, 23] (by rw [hsz]; decide) (by kernel_rfl))).trans (hF 15 (by decide))
      have e45 : ρ (.tmp 45) = .bool (!y) := ((hρ 45).trans (slotJ [15, 23] (by rw [hsz]; decide) (by kernel_rfl))).trans (hF 23 (by decide))
      clear hρ hF hfun sl1 sl2 sl5 sl7 fin
      exact opv_val (by go_simp <;> rfl) ⟨gw_self _, rfl⟩
  · intro vals w1 hG hF
    exact fin vals w1 hG (hF 24 (by decide +kernel))
theorem wkd_r (Q : Exit → Act → World → Prop) (a0 : Act) (w : World) (gb N cn i m vc n xn xc : Nat) (A xA : Option Addr) (b ad : Addr) (hs : Hid (∀ W, Below w.heap.size w W → W.cell? ⟨gb, 0, none⟩ = some (.slice (some ad) N cn) ∧ W.cell? (b.add i) = some (.int .i64 ((n : Int) + 1)) ∧ W.cell? (ad.add (n * 2)) = some (.slice xA xn xc))) (hn : (n : Int) < (N : Int)) (hN : (N : Int) ≤ 60) (p0 : (0 : Int) ≤ (n : Int)) (p1 : (0 : Int) ≤ (i : Int)) (p2 : (i : Int) < (m : Int)) (hsz : a0.tmps.size = 111) (sl2 : a0.tmps.getD 2 undef = .pointer (some ⟨gb, 0, none⟩)) (sl6 : a0.tmps.getD 6 undef = .slice (some b) m vc) (sl8 : a0.tmps.getD 8 undef = .int .i64 i)
    (fin : ∀ (vals : Nat → Value) (w1 : World), Below w.heap.size w w1 → (IsV (.slice xA xn xc)) (vals 10) w1 → Q .normal (putD vals [66, 67, 68, 69, 70, 71, 72, 73, 74, 75, 9] 0 a0) w1) :
    (Code.region 12 (regIn Try.f14 12) true).wp Try.prog Q a0 w := by
  refine region_by (G := fun w w1 => Below w.heap.size w w1) [IsV (.pointer (some ⟨gb, 0, none⟩)),
    IsV (.slice (some ad) N cn),
    IsV (.slice (some b) m vc),
    IsV (.int .i64 i),
    IsV (.pointer (some (b.add i))),
    IsV (.int .i64 ((n : Int) + 1)),
    IsV (.int .i64 n),
    IsV (.pointer (some (ad.add (n * 2)))),
    IsV (.pointer (some (ad.add (n * 2)))),
    IsV (.slice xA xn xc),
    IsV (.slice xA xn xc)]
    [66, 67, 68, 69, 70, 71, 72, 73, 74, 75, 9] (by kernel_rfl) (Gw.drew _) Gw.trans (by rw [hsz]; kernel_rfl) (by kernel_rfl) ?_ ?_ ?_
  · intro f hf
    simp only [List.mem_cons, List.not_mem_nil, or_false] at hf
    rcases hf with rfl | rfl | rfl | rfl | rfl | rfl | rfl | rfl | rfl | rfl | rfl <;> intro v a b h g <;> first | exact IsV.mono h
  · refine ⟨?_, ?_, ?_, ?_, ?_, ?_, ?_, ?_, ?_, ?_, ?_, trivial⟩
    · refine owes_v (Go.Op.fieldAddr 32 (Go.Operand.tmp 2) 0) 0 [] (by kernel_rfl) (by kernel_rfl) (by kernel_rfl) rfl fun vals w1 ρ hG hF hρ hcst hfun => ?_
      have e2 : ρ (.tmp 2) = .pointer (some ⟨gb, 0, none⟩) := ((hρ 2).trans (slotO [] (by kernel_rfl))).trans sl2
      clear hρ hF hcst hfun sl2 sl6 sl8 fin
      exact opv_val (by go_simp <;> rfl) ⟨gw_self _, rfl⟩
    · refine owes_v (Go.Op.load 29 (Go.Operand.tmp 66)) 29 [0] (by kernel_rfl) (by kernel_rfl) (by kernel_rfl) rfl fun vals w1 ρ hG hF hρ hcst hfun => ?_
      have e66 : ρ (.tmp 66) = .pointer (some ⟨gb, 0, none⟩) := ((hρ 66).trans (slotJ [0] (by rw [hsz]; decide) (by kernel_rfl))).trans (hF 0 (by decide))
      have k := (hs.out w1 hG).1
      clear hρ hF hcst hfun sl2 sl6 sl8 fin
      exact opv_val (by go_simp <;> rfl) ⟨gw_self _, rfl⟩
    · exact owes_mv 6 (by kernel_rfl) (by kernel_rfl) (by kernel_rfl) sl6 (fun _ => rfl)
    · exact owes_mv 8 (by kernel_rfl) (by kernel_rfl) (by kernel_rfl) sl8 (fun _ => rfl)
    · refine owes_v (Go.Op.indexAddr 26 (Go.Operand.tmp 68) (Go.Operand.tmp 69)) 0 [2, 3] (by kernel_rfl) (by kernel_rfl) (by kernel_rfl) rfl fun vals w1 ρ hG hF hρ hcst hfun => ?_
      have e68 : ρ (.tmp 68) = .slice (some b) m vc := ((hρ 68).trans (slotJ [2, 3] (by rw [hsz]; decide) (by kernel_rfl))).trans (hF 2 (by decide))
      have e69 : ρ (.tmp 69) = .int .i64 i := ((hρ 69).trans (slotJ [2, 3] (by rw [hsz]; decide) (by kernel_rfl))).trans (hF 3 (by decide))
      clear hρ hF hcst hfun sl2 sl6 sl8 fin
      exact opv_val (by go_simp <;> rfl) ⟨gw_self _, rfl⟩
    · refine owes_v (Go.Op.load 3 (Go.Operand.tmp 70)) 3 [4] (by kernel_rfl) (by kernel_rfl) (by kernel_rfl) rfl fun vals w1 ρ hG hF hρ hcst hfun => ?_
      have e70 : ρ (.tmp 70) = .pointer (some (b.add i)) := ((hρ 70).trans (slotJ [4] (by rw [hsz]; decide) (by kernel_rfl))).trans (hF 4 (by decide))
      have k := (hs.out w1 hG).2.1
      clear hρ hF hcst hfun sl2 sl6 sl8 fin
      exact opv_val (by go_simp <;> rfl) ⟨gw_self _, rfl⟩
    · refine owes_v (Go.Op.binOp Go.BinOp.sub 3 (Go.Operand.tmp 71) (Go.Operand.const (Go.Value.int Go.IntKind.i64 1)) 3) 3 [5] (by kernel_rfl) (by kernel_rfl) (by kernel_rfl) rfl fun vals w1 ρ hG hF hρ hcst hfun => ?_
      have e71 : ρ (.tmp 71) = .int .i64 ((n : Int) + 1) := ((hρ 71).trans (slotJ [5] (by rw [hsz]; decide) (by kernel_rfl))).trans (hF 5 (by decide))
      have kw : IntKind.i64.wrap (n : Int) = (n : Int) := wrapIn (by omega) (by omega)
      clear hρ hF hfun sl2 sl6 sl8 fin
      exact opv_val (by go_simp <;> rfl) ⟨gw_self _, rfl⟩
    · refine owes_v (Go.Op.indexAddr 29 (Go.Operand.tmp 67) (Go.Operand.tmp 72)) 0 [1, 6] (by kernel_rfl) (by kernel_rfl) (by kernel_rfl) rfl fun vals w1 ρ hG hF hρ hcst hfun => ?_
      have e67 : ρ (.tmp 67) = .slice (some ad) N cn := ((hρ 67).trans (slotJ [1, 6] (by rw [hsz]; decide) (by kernel_rfl))).trans (hF 1 (by decide))
      have e72 : ρ (.tmp 72) = .int .i64 n := ((hρ 72).trans (slotJ [1, 6] (by rw [hsz]; decide) (by kernel_rfl))).trans (hF 6 (by decide))
      clear hρ hF hcst hfun sl2 sl6 sl8 fin
      exact opv_val (by go_simp <;> rfl) ⟨gw_self _, rfl⟩
    · refine owes_v (Go.Op.fieldAddr 60 (Go.Operand.tmp 73) 0) 0 [7] (by kernel_rfl) (by kernel_rfl) (by kernel_rfl) rfl fun vals w1 ρ hG hF hρ hcst hfun => ?_
      have e73 : ρ (.tmp 73) = .pointer (some (ad.add (n * 2))) := ((hρ 73).trans (slotJ [7] (by rw [hsz]; decide) (by kernel_rfl))).trans (hF 7 (by decide))
      clear hρ hF hcst hfun sl2 sl6 sl8 fin
      exact opv_val (by go_simp <;> rfl) ⟨gw_self _, rfl⟩
    · refine owes_v (Go.Op.load 26 (Go.Operand.tmp 74)) 26 [8] (by kernel_rfl) (by kernel_rfl) (by kernel_rfl) rfl fun vals w1 ρ hG hF hρ hcst hfun => ?_
      have e74 : ρ (.tmp 74) = .pointer (some (ad.add (n * 2))) := ((hρ 74).trans (slotJ [8] (by rw [hsz]; decide) (by kernel_rfl))).trans (hF 8 (by decide))
      have k := (hs.out w1 hG).2.2
      clear hρ hF hcst hfun sl2 sl6 sl8 fin
      exact opv_val (by go_simp <;> rfl) ⟨gw_self _, rfl⟩
    · exact owes_mvj 9 75 (by kernel_rfl) (by kernel_rfl) (by kernel_rfl) (by kernel_rfl) (by rw [hsz]; decide) (fun v w h => h)
  · intro vals w1 hG hF
    exact fin vals w1 hG (hF 10 (by decide +kernel))
def Cov (ns : List Nv) (out : List Int) (i : Nat) : Prop := ∀ (j : Nat) (p : Int), j < i → out[j]? = some p → ∀ q ∈ ptrsG ns p, hasG ns.length q = true → q ∈ out
theorem Cov.push {ns : List Nv} {out : List Int} {i : Nat} (h : Cov ns out i) (hi : i ≤ out.length) (x : Int) : Cov ns (out ++ [x]) i := fun j p hj hp q hq hh => by
  rw [List.getElem?_append_left (by omega)] at hp
  exact List.mem_append.2 (.inl (h j p hj hp q hq hh))
/-- What Walk works on. -/
structure WS (w W : World) (q N1 : Nat) (vn vr : Value) (seen : List Bool) (out : List Int) (v : Value) : Prop where
  gb : Bk W w.heap.size 32 #[vn, vr]
  sn : Ow tV 4 W (w.heap.size + 1) (.slice (some ⟨q, 0, none⟩) N1 N1) seen
  wk : Ow iV 3 W (w.heap.size + 1) v out
  bl : Below w.heap.size w W
section
variable {w W W' : World} {q N1 : Nat} {vn vr v v' : Value} {seen : List Bool} {out : List Int}
theorem WS.below (h : WS w W q N1 vn vr seen out v) (hb : Below W.heap.size W W') : WS w W' q N1 vn vr seen out v := ⟨h.gb.below hb h.gb.lt, h.sn.below hb, h.wk.below hb, h.bl.trans (hb.mono h.bl.size)⟩
theorem WS.mark (h : WS w W q N1 vn vr seen out v) {n : Nat} (hn : n < seen.length) : WS w (W.setCell ⟨q, n, none⟩ (.bool true)) q N1 vn vr (seen.set n true) out v := by
  have hq := h.sn.ge.1
  refine ⟨h.gb.far (p := ⟨q, n, none⟩) (show w.heap.size ≠ q by omega) _, h.sn.set hn true, h.wk.kept (grown_set W ⟨q, n, none⟩ _) ?_, h.bl.setCell (p := ⟨q, n, none⟩) (show w.heap.size ≤ q by omega) _⟩
  exact .inr (own_ne h.sn h.wk)
theorem WS.app (h : WS w W q N1 vn vr seen out v) {x : Int} (ho : Ow iV 3 W' (w.heap.size + 1) v' (out ++ [x])) (hb : Below (w.heap.size + 1) W W') (hg : W.grownBy W' v.ownBlock) : WS w W' q N1 vn vr seen (out ++ [x]) v' := by
  refine ⟨h.gb.below hb (by omega), h.sn.kept hg (.inr (fun e => own_ne h.sn h.wk e.symm)), ho, h.bl.trans (hb.mono (by omega))⟩
end
theorem walk_c (w : World) (g : Gv) (hg : g.At w w.heap.size) (hs : FewP g) (hok : ∀ x ∈ g.n, ∀ p ∈ x.ps, okP g.n.length p = true) (A : Option Addr) (c : Nat) (fr : List Int) (hr : Rd iV w w.heap.size A fr) (hl : fr.length ≤ 1000) :
    Calls Try.prog 14 #[g.v, .slice A fr.length c] w fun e w' => ∃ v seen out, e = .returned v ∧ Ow iV 3 w' (w.heap.size + 1) v out ∧ Wk g.n fr seen out ∧ (∀ p, p ∈ out ↔ Rch g.n fr p) ∧ Below w.heap.size w w' := by
  have HG := Lib.hid hg
  have HOk := Lib.hid hok
  have HP := Lib.hid hs.2.2.1
  have hsn := hs.1
  have HR := Lib.hid hr
  obtain ⟨GA, ca, A2, ca2, ns, rs⟩ := g
  obtain ⟨N, hN⟩ : ∃ N, N = ns.length := ⟨_, rfl⟩
  obtain ⟨M, hM⟩ : ∃ M, M = rs.length := ⟨_, rfl⟩
  obtain ⟨F, hF⟩ : ∃ F, F = fr.length := ⟨_, rfl⟩
  obtain ⟨N1, hN1⟩ : ∃ N1, N1 = N + 1 := ⟨_, rfl⟩
  have q0 : (N : Int) ≤ 60 := by rw [hN]; exact Int.ofNat_le.2 hsn
  have q1 : (F : Int) ≤ 1000 := by omega
  have HN := Lib.hid (And.intro hN (And.intro hF hN1))
  have q2 : (N : Int) + 1 = (N1 : Int) := by omega
  unfold Gv.v Gv.vn Gv.vr
  simp only at HP HOk ⊢
  rw [← hN, ← hM, ← hF]
  clear hg hs hok hsn hr hl hN hM hF hN1
  go_enter Try.func14, Try.ntmps14
  go_wp2_with (at_make; refine wp_make (f := tV) oneT rfl _ _ rfl false rfl (w.heap.size + 1) N1 _ _ _ _ rfl rfl rfl rfl (by omega) (by decide) (by simp) ?_; rintro q w2 hq ho2 hb2 _; have H2 := Lib.hid (And.intro ho2 hb2); have HQ := Lib.hid (show q = w.heap.size + 1 from by rw [hq]; simp); clear ho2 hb2 hq)
  have hS0 : WS w w2 q N1 (.slice GA N ca) (.slice A2 M ca2) (List.replicate N1 false) [] (.slice none 0 0) := by
    obtain ⟨o1, o2⟩ := H2.out
    exact ⟨(Bk.new w 32 #[.slice GA N ca, .slice A2 M ca2]).below o2 (by omega), o1, Ow.nil_ _ _ _ _, ((Below.refl _ _).alloc (Nat.le_refl _) _).trans (o2.mono (by omega))⟩
  have HS0 := Lib.hid hS0
  clear hS0 H2
  go_loopw [6, 7] (fun o i W => ∃ (k : Nat) (seen : List Bool) (out : List Int), i = .int .i64 k ∧ k ≤ F ∧ Hid (WS w W q N1 (.slice GA N ca) (.slice A2 M ca2) seen out o) ∧ Hid (Wk ns fr seen out ∧ ∀ p ∈ fr.take k, hasG ns.length p = true → p ∈ out)) (fun _ i _ => F - (Go.RowKit.intOf i).toNat)
  case atStart => exact ⟨0, _, [], rfl, Nat.zero_le _, Lib.hid HS0.out, Lib.hid ⟨by rw [HN.out.2.2, HN.out.1]; exact Wk.start _ _, fun p hp => by cases hp⟩⟩
  case round =>
    obtain ⟨k, seen, out, rfl, hk, hS, hW⟩ := hrel
    by_cases hlt : k < F
    · have hkf : k < fr.length := by rw [← HN.out.2.1]; exact hlt
      obtain ⟨x, hx⟩ : ∃ x, x = fr[k] := ⟨_, rfl⟩
      obtain ⟨a, rfl, ha, hca⟩ := (HR.out.below hS.out.bl) k hkf
      rw [← hx] at hca
      unfold iV at hca
      have HT := Lib.hid (show fr.take (k + 1) = fr.take k ++ [x] from by rw [take_snoc fr k hkf, hx])
      have HMem := Lib.hid (show x ∈ fr from by rw [hx]; exact List.getElem_mem _)
      have p1 : (0 : Int) ≤ (k : Int) := by omega
      have p2 : (k : Int) < (F : Int) := by omega
      have HCell := Lib.hid (fun (W : World) (b : Below wr.heap.size wr W) => show W.cell? (a.add k) = some (.int .i64 x) ∧ W.cell? ⟨w.heap.size, 0, none⟩ = some (.slice GA N ca) from ⟨(b.cell (cell_lt hca)).trans hca, (hS.out.gb.below b hS.out.gb.lt).cell 0⟩)
      clear hx ha hca hkf
      by_cases hx1 : x < 1
      · go_wp2_with fail
        refine wka_r _ _ _ a F c k x (Lib.hid (fun W b => (HCell.out W b).1)) hx1 p1 p2 rfl rfl rfl ?_
        intro vals w4 hG h46
        unfold IsV at h46
        simp only [putD, Act.put, List.setIfInBounds_toArray, List.set_cons_zero, List.set_cons_succ, h46]
        have HS4 := Lib.hid (hS.out.below hG)
        clear hG h46
        go_wp2_with fail
        go_roundw
        case rel => exact ⟨k + 1, seen, out, by go_num, by omega, Lib.hid HS4.out, Lib.hid ⟨hW.out.1, fun p hp hh => by
          rw [HT.out] at hp
          rcases List.mem_append.1 hp with hp | hp
          · exact hW.out.2 p hp hh
          · rw [List.mem_singleton.1 hp] at hh
            have := hasG_iff.1 hh
            omega⟩⟩
        case measure => simp [Go.RowKit.intOf]; omega
      · have hx2 : (1 : Int) ≤ x := by omega
        by_cases hx3 : (N : Int) < x
        · go_wp2_with fail
          refine wkb_r _ _ _ a F c k w.heap.size N ca GA x HCell hx2 hx3 p1 p2 rfl rfl rfl rfl ?_
          intro vals w4 hG h46
          unfold IsV at h46
          simp only [putD, Act.put, List.setIfInBounds_toArray, List.set_cons_zero, List.set_cons_succ, h46]
          have HS4 := Lib.hid (hS.out.below hG)
          clear hG h46
          go_wp2_with fail
          go_roundw
          case rel => exact ⟨k + 1, seen, out, by go_num, by omega, Lib.hid HS4.out, Lib.hid ⟨hW.out.1, fun p hp hh => by
            rw [HT.out] at hp
            rcases List.mem_append.1 hp with hp | hp
            · exact hW.out.2 p hp hh
            · rw [List.mem_singleton.1 hp] at hh
              have := hasG_iff.1 hh
              rw [← HN.out.1] at this
              omega⟩⟩
          case measure => simp [Go.RowKit.intOf]; omega
        · obtain ⟨n, rfl⟩ : ∃ n : Nat, x = (n : Int) := ⟨x.toNat, by omega⟩
          have hx4 : (n : Int) ≤ (N : Int) := by omega
          have hx5 : (n : Int) < (N1 : Int) := by omega
          have hnn : n ≤ ns.length := by rw [← HN.out.1]; omega
          obtain ⟨y, hy, hyi⟩ := hW.out.1.get hnn
          have HY := Lib.hid (And.intro hy (And.intro hyi hnn))
          have hcy : wr.cell? ⟨q, n, none⟩ = some (.bool y) := by
            obtain ⟨h, e⟩ := List.getElem?_eq_some_iff.1 hy
            rw [← e]; exact hS.out.sn.cell h
          have HC2 := Lib.hid (fun (W : World) (b : Below wr.heap.size wr W) => show W.cell? (a.add k) = some (.int .i64 n) ∧ W.cell? ⟨w.heap.size, 0, none⟩ = some (.slice GA N ca) ∧ W.cell? ⟨q, n, none⟩ = some (.bool y) from ⟨(HCell.out W b).1, (HCell.out W b).2, (b.cell (cell_lt hcy)).trans hcy⟩)
          clear hx1 hx3 hcy hy hyi hnn
          cases y with
          | true =>
            go_wp2_with fail
            refine wkc_r _ _ _ a F c k w.heap.size N ca q n N1 GA true HC2 hx2 hx4 hx5 p1 p2 rfl rfl rfl rfl rfl ?_
            intro vals w4 hG h46
            unfold IsV at h46
            simp only [putD, Act.put, List.setIfInBounds_toArray, List.set_cons_zero, List.set_cons_succ, h46]
            have HS4 := Lib.hid (hS.out.below hG)
            clear hG h46
            go_wp2_with fail
            go_roundw
            case rel => exact ⟨k + 1, seen, out, by go_num, by omega, Lib.hid HS4.out, Lib.hid ⟨hW.out.1, fun p hp hh => by
              rw [HT.out] at hp
              rcases List.mem_append.1 hp with hp | hp
              · exact hW.out.2 p hp hh
              · rw [List.mem_singleton.1 hp]
                exact HY.out.2.1.1 (by first | rfl | trivial)⟩⟩
            case measure => simp [Go.RowKit.intOf]; omega
          | false =>
            go_wp2_with fail
            refine wkc_r _ _ _ a F c k w.heap.size N ca q n N1 GA false HC2 hx2 hx4 hx5 p1 p2 rfl rfl rfl rfl rfl ?_
            intro vals w4 hG h46
            unfold IsV at h46
            simp only [putD, Act.put, List.setIfInBounds_toArray, List.set_cons_zero, List.set_cons_succ, h46]
            have HS4 := Lib.hid (hS.out.below hG)
            have hnl : n < seen.length := by rw [hW.out.1.len]; have := HY.out.2.2; omega
            have HS5 := Lib.hid (HS4.out.mark hnl)
            have hca4 := (HC2.out w4 hG).1
            have hq4 := (HC2.out w4 hG).2.2
            have hf4 := HS4.out.sn.free n
            have hca5 : (w4.setCell ⟨q, n, none⟩ (.bool true)).cell? (a.add k) = some (.int .i64 n) := by
              obtain ⟨ad, e, hab, h⟩ := (HR.out.below HS5.out.bl) k (by rw [← HN.out.2.1]; exact hlt)
              injection e with e
              subst e
              have e2 : fr[k]'(by rw [← HN.out.2.1]; exact hlt) = (n : Int) := by
                have h0 := hca4
                obtain ⟨ad, e, _, h2⟩ := (HR.out.below HS4.out.bl) k (by rw [← HN.out.2.1]; exact hlt)
                injection e with e
                subst e
                rw [h2] at h0
                unfold iV at h0
                injection h0 with h0
                injection h0
              rw [h, e2]; rfl
            obtain ⟨VA, m, vc, rfl⟩ : ∃ A m n, u6 = Value.slice A m n := by
              obtain ⟨A, c, e, _⟩ := HS4.out.wk.form
              exact ⟨A, _, c, e⟩
            have hml : out.length + 1 ≤ 4294967296 := by have := hW.out.1.le; have h3 := HN.out.1; omega
            have HRd := Lib.hid (show Rd iV ((w4.setCell ⟨q, n, none⟩ (.bool true)).alloc (.cells #[.int .i64 n] 3)) (w4.heap.size + 1) (some ⟨w4.heap.size, 0, none⟩) [(n : Int)] from by
              have := rd1_new (f := iV) (w := w4.setCell ⟨q, n, none⟩ (.bool true)) (E := 3) (y := (n : Int)) (u := .int .i64 n) rfl
              simpa [World.setCell] using this)
            have HW6 := Lib.hid (show Wk ns fr (seen.set n true) (out ++ [(n : Int)]) from hW.out.1.push HY.out.2.2 HY.out.1 (.base _ HMem.out (hasG_iff.2 (by have := HY.out.2.2; omega))))
            have hsz5 : w.heap.size + 1 ≤ ((w4.setCell ⟨q, n, none⟩ (.bool true)).alloc (.cells #[.int .i64 n] 3)).heap.size := Nat.le_trans (by have := HS5.out.sn.lt q rfl; omega : w.heap.size + 1 ≤ (w4.setCell ⟨q, n, none⟩ (.bool true)).heap.size) (Gw.alloc _ _).size
            have HSz := Lib.hid hsz5
            clear hG h46 hsz5
            go_wp2_with (at_builtin; refine wp_app oneI iV_one rfl (.tmp 53) (.tmp 58) rfl (w.heap.size + 1) _ out rfl (HS5.out.wk.alloc _) (some ⟨w4.heap.size, 0, none⟩) 1 1 [(n : Int)] rfl rfl (w4.heap.size + 1) HRd.out hml (by decide) HSz.out ?_; intro v5 w5 ho5 hb5 hg5 _; have HS6 := Lib.hid ((HS5.out.below (Gw.alloc _ _)).app ho5 hb5 hg5); clear ho5 hb5 hg5)
            clear hca4 hq4 hf4 hca5
            go_roundw
            case rel => exact ⟨k + 1, _, _, by go_num, by omega, Lib.hid HS6.out, Lib.hid ⟨HW6.out, fun p hp hh => by
              rw [HT.out] at hp
              rcases List.mem_append.1 hp with hp | hp
              · exact List.mem_append.2 (.inl (hW.out.2 p hp hh))
              · exact List.mem_append.2 (.inr hp)⟩⟩
            case measure => simp [Go.RowKit.intOf]; omega
    · have hkF : k = F := by omega
      have HF := Lib.hid (show ∀ p ∈ fr, hasG ns.length p = true → p ∈ out from by
        have := hW.out.2
        rwa [hkF, List.take_of_length_le (by rw [← HN.out.2.1]; exact Nat.le_refl _)] at this)
      have HW1 := Lib.hid hW.out.1
      clear hW hkF
      go_wp2_with fail
      clear hlt hk
      obtain ⟨W0, hW0⟩ : ∃ W0, W0 = wr := ⟨_, rfl⟩
      rw [← hW0] at hS ⊢
      clear hW0
      go_loopw [6, 8] (fun o i W => ∃ (k : Nat) (seen : List Bool) (out : List Int), i = .int .i64 k ∧ Hid (k ≤ out.length) ∧ Hid (WS w W q N1 (.slice GA N ca) (.slice A2 M ca2) seen out o) ∧ Hid (Wk ns fr seen out ∧ (∀ p ∈ fr, hasG ns.length p = true → p ∈ out) ∧ Cov ns out k)) (fun _ i _ => N1 - (Go.RowKit.intOf i).toNat)
      case atStart => exact ⟨0, seen, out, rfl, Lib.hid (Nat.zero_le _), Lib.hid hS.out, Lib.hid ⟨HW1.out, HF.out, fun j p hj => absurd hj (by omega)⟩⟩
      case round =>
        clear hS
        obtain ⟨k, seen, out, rfl, hk, hS, hW⟩ := hrel
        obtain ⟨VA, m, vc, rfl, hm⟩ : ∃ A m n, u6 = Value.slice A m n ∧ m = out.length := by
          obtain ⟨A, c, e, _⟩ := hS.out.wk.form
          exact ⟨A, _, c, e, rfl⟩
        have hmN : m ≤ N1 := by have := hW.out.1.le; have h1 := HN.out.1; have h2 := HN.out.2.2; omega
        have HM := Lib.hid hm
        have hkm := hk.out
        rw [← hm] at hkm
        by_cases hlt : k < m
        · have hko : k < out.length := by rw [← hm]; exact hlt
          obtain ⟨p, hp⟩ : ∃ p, p = out[k] := ⟨_, rfl⟩
          have hpm : p ∈ out := by rw [hp]; exact List.getElem_mem _
          have hrp := hW.out.1.ok p hpm
          have hpg := hasG_iff.1 hrp.has
          obtain ⟨n, rfl, hnn⟩ : ∃ n : Nat, p = (n : Int) + 1 ∧ n < ns.length := ⟨(p - 1).toNat, by omega, by omega⟩
          obtain ⟨x, hx⟩ : ∃ x, x = ns[n] := ⟨_, rfl⟩
          have hpx : ptrsG ns ((n : Int) + 1) = x.ps := by
            unfold ptrsG
            rw [show ((n : Int) + 1 - 1).toNat = n by omega, List.getElem?_eq_getElem hnn, ← hx]
          obtain ⟨ad, rfl, hc2, hxa⟩ : ∃ ad, GA = some ad ∧ wr.cell? (ad.add (n * 2)) = some x.vp ∧ x.At w w.heap.size := by
            obtain ⟨ad, e, _, h1, h2, h3⟩ := (HG.out.n.below hS.out.bl) n hnn
            obtain ⟨_, _, _, _, _, h4⟩ := HG.out.n n hnn
            exact ⟨ad, e, by rw [hx]; exact h1, by rw [hx]; exact h4⟩
          obtain ⟨b, e, hbc, _, _, _⟩ := ow_spot hS.out.wk hko
          subst e
          rw [← hp] at hbc
          unfold iV at hbc
          have hokx := HOk.out x (by rw [hx]; exact List.getElem_mem _)
          have hszx := (HP.out x (by rw [hx]; exact List.getElem_mem _)).1
          have HRch := Lib.hid (fun (q : Int) (hq : q ∈ x.ps) (hh : hasG ns.length q = true) => Rch.step (fr := fr) ((n : Int) + 1) q hrp (by rw [hpx]; exact hq) hh)
          have HXa := Lib.hid hxa
          have HPx := Lib.hid (And.intro hpx (show out[k]? = some ((n : Int) + 1) from by rw [List.getElem?_eq_getElem hko, ← hp]))
          obtain ⟨xA, xc, xD, xd, xps, xbs⟩ := x
          unfold Nv.vp at hc2
          simp only at hc2 hokx hszx HRch HPx
          obtain ⟨xn, hxn⟩ : ∃ n, n = xps.length := ⟨_, rfl⟩
          rw [← hxn] at hc2 hszx
          have HX := Lib.hid hxn
          have HOx := Lib.hid hokx
          have HC := Lib.hid (fun (W : World) (bb : Below wr.heap.size wr W) => show W.cell? ⟨w.heap.size, 0, none⟩ = some (.slice (some ad) N ca) ∧ W.cell? ((⟨b, 0, none⟩ : Addr).add k) = some (.int .i64 ((n : Int) + 1)) ∧ W.cell? (ad.add (n * 2)) = some (.slice xA xn xc) from ⟨(hS.out.gb.below bb hS.out.gb.lt).cell 0, by rw [addr_at]; exact (bb.cell (cell_lt hbc)).trans hbc, (bb.cell (cell_lt hc2)).trans hc2⟩)
          have p0 : (0 : Int) ≤ (n : Int) := by omega
          have p1 : (0 : Int) ≤ (k : Int) := by omega
          have p2 : (k : Int) < (m : Int) := by omega
          have p3 : (n : Int) < (N : Int) := by have := HN.out.1; omega
          have q3 : (xn : Int) ≤ 70 := by omega
          clear hp hpm hrp hpg hx hpx hxa hbc hc2 hokx hszx hxn hko hm
          go_wp2_with fail
          refine wkd_r _ _ _ w.heap.size N ca k m vc n xn xc none xA ⟨b, 0, none⟩ ad HC p3 q0 p0 p1 p2 rfl rfl rfl rfl ?_
          intro vals w4 hG h9
          unfold IsV at h9
          simp only [putD, Act.put, List.setIfInBounds_toArray, List.set_cons_zero, List.set_cons_succ, h9]
          have HS4 := Lib.hid (hS.out.below hG)
          clear hG h9 HC hS
          go_wp2_with fail
          have HW4 := Lib.hid (And.intro hW.out hk.out)
          clear hW hk
          go_loopw [6, 10] (fun o i W => ∃ (j : Nat) (seen : List Bool) (out : List Int), i = .int .i64 j ∧ j ≤ xn ∧ Hid (WS w W q N1 (.slice (some ad) N ca) (.slice A2 M ca2) seen out o) ∧ Hid (k < out.length ∧ out[k]? = some ((n : Int) + 1) ∧ Wk ns fr seen out ∧ (∀ p ∈ fr, hasG ns.length p = true → p ∈ out) ∧ Cov ns out k ∧ ∀ q ∈ xps.take j, hasG ns.length q = true → q ∈ out)) (fun _ i _ => xn - (Go.RowKit.intOf i).toNat)
          case atStart => exact ⟨0, seen, out, rfl, Nat.zero_le _, Lib.hid HS4.out, Lib.hid ⟨by rw [← HM.out]; exact hlt, HPx.out.2, HW4.out.1.1, HW4.out.1.2.1, HW4.out.1.2.2, fun q hq => by cases hq⟩⟩
          case round =>
            obtain ⟨j, seen, out, rfl, hj, hS, hW⟩ := hrel
            obtain ⟨VA, m, vc, rfl⟩ : ∃ A m n, u6 = Value.slice A m n := by
              obtain ⟨A, c, e, _⟩ := hS.out.wk.form
              exact ⟨A, _, c, e⟩
            by_cases hlj : j < xn
            · have hjl : j < xps.length := by rw [← HX.out]; exact hlj
              obtain ⟨x, hx⟩ : ∃ x, x = xps[j] := ⟨_, rfl⟩
              obtain ⟨a, rfl, ha, hca⟩ := (HXa.out.p.below hS.out.bl) j hjl
              rw [← hx] at hca
              unfold iV at hca
              have hxm : x ∈ xps := by rw [hx]; exact List.getElem_mem _
              have hxo := okP_iff.1 (HOx.out x hxm)
              have HT := Lib.hid (show xps.take (j + 1) = xps.take j ++ [x] from by rw [take_snoc xps j hjl, hx])
              have p4 : (0 : Int) ≤ (j : Int) := by omega
              have p5 : (j : Int) < (xn : Int) := by omega
              have HXm := Lib.hid hxm
              have HCa := Lib.hid (fun (W : World) (b : Below w.heap.size w W) => show W.cell? (a.add j) = some (.int .i64 x) from by
                obtain ⟨ad, e, _, h⟩ := (HXa.out.p.below b) j hjl
                have e : some a = some ad := e
                injection e with e
                subst e
                rw [h, ← hx]; rfl)
              clear hx ha hxm hjl
              by_cases hx0 : x = 0
              · subst hx0
                go_wp2_with fail
                go_roundw
                case rel =>
                  first
                  | exact ⟨j + 1, seen, out, by go_num, by omega, Lib.hid hS.out, Lib.hid ⟨hW.out.1, hW.out.2.1, hW.out.2.2.1, hW.out.2.2.2.1, hW.out.2.2.2.2.1, fun q hq hh => by
                    rw [HT.out] at hq
                    rcases List.mem_append.1 hq with hq | hq
                    · exact hW.out.2.2.2.2.2 q hq hh
                    · rw [List.mem_singleton.1 hq] at hh
                      have := hasG_iff.1 hh
                      omega⟩⟩
                  | exact ⟨j + 1, by go_num, by omega, seen, out, Lib.hid hS.out, Lib.hid ⟨hW.out.1, hW.out.2.1, hW.out.2.2.1, hW.out.2.2.2.1, hW.out.2.2.2.2.1, fun q hq hh => by
                    rw [HT.out] at hq
                    rcases List.mem_append.1 hq with hq | hq
                    · exact hW.out.2.2.2.2.2 q hq hh
                    · rw [List.mem_singleton.1 hq] at hh
                      have := hasG_iff.1 hh
                      omega⟩⟩
                case measure => simp [Go.RowKit.intOf]; omega
              · obtain ⟨n', rfl⟩ : ∃ n : Nat, x = (n : Int) := ⟨x.toNat, by omega⟩
                obtain ⟨n0, hn0⟩ : ∃ n0, n0 = n := ⟨_, rfl⟩
                rw [← hn0] at hW HPx ⊢
                clear hn0
                obtain ⟨n, hn9⟩ : ∃ n, n = n' := ⟨_, rfl⟩
                subst hn9
                have hnn : n ≤ ns.length := by omega
                have hx5 : (n : Int) < (N1 : Int) := by have := HN.out.1; have := HN.out.2.2; omega
                have hn0 : (0 : Int) ≤ (n : Int) := by omega
                obtain ⟨y, hy, hyi⟩ := hW.out.2.2.1.get hnn
                have HY := Lib.hid (And.intro hy (And.intro hyi hnn))
                have hcy : wr.cell? ⟨q, n, none⟩ = some (.bool y) := by
                  obtain ⟨h, e⟩ := List.getElem?_eq_some_iff.1 hy
                  rw [← e]; exact hS.out.sn.cell h
                have HN0 := Lib.hid (show 1 ≤ n from by omega)
                clear hxo hy hyi hnn
                cases y with
                | true =>
                  go_wp2_with fail
                  go_roundw
                  case rel =>
                    first
                    | exact ⟨j + 1, seen, out, by go_num, by omega, Lib.hid hS.out, Lib.hid ⟨hW.out.1, hW.out.2.1, hW.out.2.2.1, hW.out.2.2.2.1, hW.out.2.2.2.2.1, fun q hq hh => by
                      rw [HT.out] at hq
                      rcases List.mem_append.1 hq with hq | hq
                      · exact hW.out.2.2.2.2.2 q hq hh
                      · rw [List.mem_singleton.1 hq]
                        exact HY.out.2.1.1 (by first | rfl | trivial)⟩⟩
                    | exact ⟨j + 1, by go_num, by omega, seen, out, Lib.hid hS.out, Lib.hid ⟨hW.out.1, hW.out.2.1, hW.out.2.2.1, hW.out.2.2.2.1, hW.out.2.2.2.2.1, fun q hq hh => by
                      rw [HT.out] at hq
                      rcases List.mem_append.1 hq with hq | hq
                      · exact hW.out.2.2.2.2.2 q hq hh
                      · rw [List.mem_singleton.1 hq]
                        exact HY.out.2.1.1 (by first | rfl | trivial)⟩⟩
                  case measure => simp [Go.RowKit.intOf]; omega
                | false =>
                  have hnl : n < seen.length := by rw [hW.out.2.2.1.len]; have := HY.out.2.2; omega
                  have HS5 := Lib.hid (hS.out.mark hnl)
                  have hf4 := hS.out.sn.free n
                  have hca5 : (wr.setCell ⟨q, n, none⟩ (.bool true)).cell? (a.add j) = some (.int .i64 n) := HCa.out _ HS5.out.bl
                  have hml : out.length + 1 ≤ 4294967296 := by have := hW.out.2.2.1.le; have h3 := HN.out.1; omega
                  have HRd := Lib.hid (show Rd iV ((wr.setCell ⟨q, n, none⟩ (.bool true)).alloc (.cells #[.int .i64 n] 3)) (wr.heap.size + 1) (some ⟨wr.heap.size, 0, none⟩) [(n : Int)] from by
                    have := rd1_new (f := iV) (w := wr.setCell ⟨q, n, none⟩ (.bool true)) (E := 3) (y := (n : Int)) (u := .int .i64 n) rfl
                    simpa [World.setCell] using this)
                  have hgn : hasG ns.length (n : Int) = true := hasG_iff.2 (by have := HY.out.2.2; have := HN0.out; omega)
                  have HW6 := Lib.hid (show Wk ns fr (seen.set n true) (out ++ [(n : Int)]) from hW.out.2.2.1.push HY.out.2.2 HY.out.1 (HRch.out _ HXm.out hgn))
                  have HSz := Lib.hid (show w.heap.size + 1 ≤ ((wr.setCell ⟨q, n, none⟩ (.bool true)).alloc (.cells #[.int .i64 n] 3)).heap.size from Nat.le_trans (by have := HS5.out.sn.lt q rfl; omega : w.heap.size + 1 ≤ (wr.setCell ⟨q, n, none⟩ (.bool true)).heap.size) (Gw.alloc _ _).size)
                  clear hgn
                  go_wp2_with (at_builtin; refine wp_app oneI iV_one rfl (.tmp 103) (.tmp 108) rfl (w.heap.size + 1) _ out rfl (HS5.out.wk.alloc _) (some ⟨wr.heap.size, 0, none⟩) 1 1 [(n : Int)] rfl rfl (wr.heap.size + 1) HRd.out hml (by decide) HSz.out ?_; intro v5 w5 ho5 hb5 hg5 _; have HS6 := Lib.hid ((HS5.out.below (Gw.alloc _ _)).app ho5 hb5 hg5); clear ho5 hb5 hg5)
                  have X : ∃ (j' : Nat) (seen' : List Bool) (out' : List Int), (Value.int .i64 ((j : Int) + 1)) = .int .i64 j' ∧ j' ≤ xn ∧ Hid (WS w w5 q N1 (.slice (some ad) N ca) (.slice A2 M ca2) seen' out' v5) ∧ Hid (k < out'.length ∧ out'[k]? = some ((n0 : Int) + 1) ∧ Wk ns fr seen' out' ∧ (∀ p ∈ fr, hasG ns.length p = true → p ∈ out') ∧ Cov ns out' k ∧ ∀ q ∈ xps.take j', hasG ns.length q = true → q ∈ out') := ⟨j + 1, _, _, by go_num, by omega, Lib.hid HS6.out, Lib.hid ⟨by rw [List.length_append]; have := hW.out.1; omega, by rw [List.getElem?_append_left hW.out.1]; exact hW.out.2.1, HW6.out, fun p hp hh => List.mem_append.2 (.inl (hW.out.2.2.2.1 p hp hh)), hW.out.2.2.2.2.1.push (by have := hW.out.1; omega) _, fun q hq hh => by
                    rw [HT.out] at hq
                    rcases List.mem_append.1 hq with hq | hq
                    · exact List.mem_append.2 (.inl (hW.out.2.2.2.2.2 q hq hh))
                    · exact List.mem_append.2 (.inr hq)⟩⟩
                  clear hca hf4 hca5 hcy
                  go_roundw
                  case rel => first | exact X | exact ⟨_, _, _, _, _, _, _, _, _, _, _, _, _, _, _, _, _, _, _, _, _, _, _, _, _, _, _, _, _, _, _, _, _, _, _, _, X, rfl⟩
                  case measure => simp [Go.RowKit.intOf]; omega
            · have hjx : j = xn := by omega
              have HK := Lib.hid (show Cov ns out (k + 1) from fun i p hi hp q hq hh => by
                by_cases e : i = k
                · subst e
                  rw [hW.out.2.1] at hp
                  injection hp with hp
                  rw [← hp, HPx.out.1] at hq
                  refine hW.out.2.2.2.2.2 q ?_ hh
                  rw [hjx, List.take_of_length_le (by rw [← HX.out]; exact Nat.le_refl _)]
                  exact hq
                · exact hW.out.2.2.2.2.1 i p (by omega) hp q hq hh)
              clear hjx
              go_wp2_with fail
              go_roundw
              case rel => exact ⟨k + 1, seen, out, by go_num, Lib.hid (by have := hW.out.1; omega), Lib.hid hS.out, Lib.hid ⟨hW.out.2.2.1, hW.out.2.2.2.1, HK.out⟩⟩
              case measure => have := HM.out; simp [Go.RowKit.intOf]; omega
        · have hkm2 : k = out.length := by rw [← hm]; omega
          have HD := Lib.hid (show ∀ p, p ∈ out ↔ Rch ns fr p from hW.out.1.done hW.out.2.1 (fun p hp q hq hh => by
            obtain ⟨j, hj, e⟩ := List.mem_iff_getElem.1 hp
            exact hW.out.2.2 j p (by omega) (by rw [List.getElem?_eq_getElem hj, e]) q hq hh))
          clear hkm2 hkm
          go_wp2_with fail
          go_ret
          exact ⟨_, seen, out, rfl, hS.out.wk, hW.out.1, HD.out, hS.out.bl⟩
end Go.Proofs.Ytidaimcndbhefaa
/- The reference's Pick: what it makes (pure); that it makes Trim's rows of what is seen in rising order. No conditions. -/
namespace Go.Proofs.Ytidaimcndbhefaa
set_option linter.unusedVariables false
set_option linter.unusedSimpArgs false
open Go.RowKit Go.Maps
/-- The place of p in a list, counted from 1; 0 where it is not. -/
def posO : List Int → Int → Nat → Int
  | [], _, _ => 0
  | x :: r, p, c => if x = p then (c : Int) + 1 else posO r p (c + 1)
def newO (order : List Int) (p : Int) : Int := posO order p 0
theorem posO_no {l : List Int} {p : Int} (h : p ∉ l) : ∀ c, posO l p c = 0 := by
  induction l with
  | nil => intro c; rfl
  | cons x r ih =>
    intro c
    unfold posO
    rw [if_neg (fun e => h (by simp [e])), ih (fun e => h (by simp [e]))]
theorem posO_end {p : Int} : ∀ (l : List Int) (c : Nat), p ∉ l → posO (l ++ [p]) p c = ((c + l.length : Nat) : Int) + 1
  | [], c, _ => by simp [posO]
  | x :: r, c, h => by
    have h1 : ¬ x = p := fun e => h (by simp [e])
    show (if x = p then _ else posO (r ++ [p]) p (c + 1)) = _
    rw [if_neg h1, posO_end r (c + 1) (fun e => h (by simp [e])), List.length_cons]
    congr 1
    omega
theorem posO_old {p y : Int} (hy : y ≠ p) : ∀ (l : List Int) (c : Nat), posO (l ++ [y]) p c = posO l p c
  | [], c => by simp [posO, hy]
  | x :: r, c => by
    show (if x = p then _ else posO (r ++ [y]) p (c + 1)) = (if x = p then _ else posO r p (c + 1))
    rw [posO_old hy r (c + 1)]
theorem newO_zero {l : List Int} (h : ∀ p ∈ l, 1 ≤ p) : newO l 0 = 0 := posO_no (fun e => by have := h 0 e; omega) 0
def toO (N : Nat) (order : List Int) : List Int := (List.range N).map fun (i : Nat) => newO order ((i : Int) + 1)
theorem toO_len (N : Nat) (l : List Int) : (toO N l).length = N := by simp [toO]
theorem toO_nil (N : Nat) : toO N [] = List.replicate N 0 := by
  refine List.ext_getElem (by simp [toO]) fun i h1 h2 => ?_
  simp [toO, newO, posO]
theorem toO_get {N : Nat} {l : List Int} {n : Nat} (h : n < N) : (toO N l)[n]? = some (newO l ((n : Int) + 1)) := by
  simp [toO, h]
theorem toO_step {N : Nat} {l : List Int} {n : Nat} (hn : n < N) (h : ((n : Int) + 1) ∉ l) : (toO N l).set n ((l.length : Int) + 1) = toO N (l ++ [(n : Int) + 1]) := by
  refine List.ext_getElem (by simp [toO]) fun i h1 h2 => ?_
  rw [List.getElem_set]
  have e2 : (toO N (l ++ [(n : Int) + 1]))[i] = newO (l ++ [(n : Int) + 1]) ((i : Int) + 1) := by simp [toO]
  rw [e2]
  unfold newO
  by_cases e : n = i
  · subst e
    rw [if_pos rfl, posO_end l 0 h]; simp
  · rw [if_neg e, posO_old (by omega)]
    simp [toO, newO]
/-- A node by its number, under the order's numbers. -/
def pick1 (ns : List Nv) (order : List Int) (p : Int) : List Int × List (BitVec 8) := match ns[(p - 1).toNat]? with | some x => (x.ps.map (newO order), x.bs) | none => ([], [])
def pickN (ns : List Nv) (order part : List Int) : List (List Int × List (BitVec 8)) := part.map (pick1 ns order)
theorem pick1_at {ns : List Nv} {order : List Int} {n : Nat} (h : n < ns.length) : pick1 ns order ((n : Int) + 1) = ((ns[n]).ps.map (newO order), (ns[n]).bs) := by
  unfold pick1
  rw [show ((n : Int) + 1 - 1).toNat = n by omega, List.getElem?_eq_getElem h]
/-- What is seen, in rising order. -/
def ordB : List Bool → Nat → List Int
  | [], _ => []
  | b :: r, i => if b = true then ((i : Int) + 1) :: ordB r (i + 1) else ordB r (i + 1)
theorem ordB_ge : ∀ (L : List Bool) (i : Nat), ∀ p ∈ ordB L i, (i : Int) + 1 ≤ p ∧ p ≤ ((i + L.length : Nat) : Int)
  | [], _, p, h => by cases h
  | b :: r, i, p, h => by
    unfold ordB at h
    cases b
    · rw [if_neg (by simp)] at h
      have := ordB_ge r (i + 1) p h
      simp only [List.length_cons]; omega
    · rw [if_pos rfl] at h
      rcases List.mem_cons.1 h with rfl | h
      · simp only [List.length_cons]; omega
      · have := ordB_ge r (i + 1) p h
        simp only [List.length_cons]; omega
theorem ordB_nodup : ∀ (L : List Bool) (i : Nat), (ordB L i).Nodup
  | [], _ => List.nodup_nil
  | b :: r, i => by
    unfold ordB
    cases b
    · rw [if_neg (by simp)]; exact ordB_nodup r (i + 1)
    · rw [if_pos rfl, List.nodup_cons]
      exact ⟨fun h => by have := ordB_ge r (i + 1) _ h; omega, ordB_nodup r (i + 1)⟩
theorem ordB_snoc (b : Bool) : ∀ (L : List Bool) (i : Nat), ordB (L ++ [b]) i = ordB L i ++ (if b = true then [((i + L.length : Nat) : Int) + 1] else [])
  | [], i => by cases b <;> simp [ordB]
  | a :: r, i => by
    simp only [List.cons_append, ordB]
    rw [ordB_snoc b r (i + 1), List.length_cons]
    have e : i + 1 + r.length = i + (r.length + 1) := by omega
    rw [e]
    cases a <;> simp
/-- Its places are Trim's new numbers. -/
theorem ordB_pairs (p : Int) : ∀ (L : List Bool) (i c : Nat), posO (ordB L i) p c = (lookI (pairsB L i c) p).getD 0
  | [], _, _ => rfl
  | b :: r, i, c => by
    unfold ordB pairsB
    cases b
    · rw [if_neg (by simp), if_neg (by simp)]; exact ordB_pairs p r (i + 1) c
    · rw [if_pos rfl, if_pos rfl]
      unfold posO lookI
      by_cases e : (i : Int) + 1 = p
      · rw [if_pos e]; simp [e]
      · rw [if_neg e, ordB_pairs p r (i + 1) (c + 1)]; simp [e]
theorem ordB_toB : ∀ (L : List Bool) (i c k : Nat), k < L.length → (toB L c)[k]? = some (posO (ordB L i) ((i : Int) + k + 1) c)
  | [], _, _, _, h => absurd h (by simp)
  | b :: r, i, c, 0, _ => by
    unfold toB ordB
    cases b
    · rw [if_neg (by simp), if_neg (by simp), posO_no (fun h => by have := ordB_ge r (i + 1) _ h; omega)]; rfl
    · rw [if_pos rfl, if_pos rfl]
      unfold posO
      rw [if_pos (by omega)]; rfl
  | b :: r, i, c, k + 1, h => by
    have hk : k < r.length := by simpa using h
    have e1 : (i : Int) + ((k + 1 : Nat) : Int) + 1 = ((i + 1 : Nat) : Int) + (k : Int) + 1 := by omega
    unfold toB ordB
    cases b
    · rw [if_neg (by simp), if_neg (by simp), e1]
      exact ordB_toB r (i + 1) c k hk
    · rw [if_pos rfl, if_pos rfl, e1]
      unfold posO
      rw [if_neg (by omega)]
      exact ordB_toB r (i + 1) (c + 1) k hk
theorem toO_ordB {N : Nat} {L : List Bool} (h : L.length = N) : toO N (ordB L 0) = toB L 0 := by
  refine List.ext_getElem? fun k => ?_
  by_cases hk : k < N
  · rw [toO_get hk, ordB_toB L 0 0 k (by omega)]
    unfold newO
    congr 2
    omega
  · rw [List.getElem?_eq_none (by rw [toO_len]; omega), List.getElem?_eq_none (by rw [toB_len]; omega)]
theorem trim_pick (now : List (Int × Int)) (ns : List Nv) : ∀ (L : List Bool) (i : Nat), (ns.drop i).length = L.length → trimN now (ns.drop i) L = (ordB L i).map fun p => match ns[(p - 1).toNat]? with | some x => (x.ps.map (newP now), x.bs) | none => ([], [])
  | [], i, h => by
    have : ns.drop i = [] := List.eq_nil_of_length_eq_zero (by simpa using h)
    rw [this]; rfl
  | b :: r, i, h => by
    have hi : i < ns.length := by rw [List.length_drop, List.length_cons] at h; omega
    have hd : ns.drop i = ns[i] :: ns.drop (i + 1) := List.drop_eq_getElem_cons hi
    have ih := trim_pick now ns r (i + 1) (by rw [hd, List.length_cons, List.length_cons] at h; omega)
    rw [hd]
    unfold trimN ordB
    cases b
    · rw [if_neg (by simp), if_neg (by simp), ih]
    · rw [if_pos rfl, if_pos rfl, ih, List.map_cons]
      rw [show ((i : Int) + 1 - 1).toNat = i by omega, List.getElem?_eq_getElem hi]
theorem newO_pairs (L : List Bool) (p : Int) : newO (ordB L 0) p = newP (pairsB L 0 0) p := ordB_pairs p L 0 0
theorem pick_trim {ns : List Nv} {L : List Bool} (h : L.length = ns.length) : pickN ns (ordB L 0) (ordB L 0) = trimN (pairsB L 0 0) ns L := by
  have := trim_pick (pairsB L 0 0) ns L 0 (by simp [h])
  rw [List.drop_zero] at this
  rw [this]
  unfold pickN
  refine List.map_congr_left fun p _ => ?_
  unfold pick1
  cases ns[(p - 1).toNat]? with
  | none => rfl
  | some x =>
    simp only [Prod.mk.injEq, and_true]
    exact List.map_congr_left fun q _ => newO_pairs L q
end Go.Proofs.Ytidaimcndbhefaa
/- The reference's Pick. Conditions: lengths; the order's numbers are nodes', each once; pointers are some node's or 0. -/
namespace Go.Proofs.Ytidaimcndbhefaa
set_option linter.unusedVariables false
set_option linter.unusedSimpArgs false
open Go.RowKit Go.Maps
/-- A row of the reference's nodes of one's own. -/
structure NO2 (W : World) (base : Nat) (v : Value) (xs : List Nv) : Prop where
  row : W.ownsRow base 60 2 v xs.length (xs.flatMap Nv.cs)
  each : ∀ x ∈ xs, Ow iV 3 W base x.vp x.ps ∧ Ow b8 5 W base x.vd x.bs
section
variable {W W' : World} {base : Nat} {v v' : Value} {xs : List Nv} {x : Nv}
theorem NO2.below (h : NO2 W base v xs) (hb : Below W.heap.size W W') : NO2 W' base v xs := ⟨ownsRow_below h.row hb, fun x hx => ⟨(h.each x hx).1.below hb, (h.each x hx).2.below hb⟩⟩
theorem ow_ne_row {α : Type} {f : α → Value} {E F : TypeId} {b b2 n : Nat} {u : Value} {l : List α} {cs : List Value} (h1 : Ow f E W b u l) (h2 : W.ownsRow b2 F 2 v n cs) (hne : E ≠ F) : u.ownBlock = none ∨ u.ownBlock ≠ v.ownBlock := by
  rcases h1.2 with ⟨e, _⟩ | ⟨g, cap, cur, e, _, hh, _⟩
  · left; rw [e]; rfl
  · right
    rw [e]
    rcases h2.2 with ⟨e2, _⟩ | ⟨g2, cap2, cur2, e2, _, hh2, _⟩
    · rw [e2]; intro e3; cases e3
    · rw [e2]
      intro e3
      injection e3 with e3
      have e4 : g = g2 := e3
      exact type_ne2 hh hh2 hne e4
theorem NO2.app (h : NO2 W base v xs) (hx : Ow iV 3 W base x.vp x.ps ∧ Ow b8 5 W base x.vd x.bs) (ho : W'.ownsRow base 60 2 v' (xs.length + 1) (xs.flatMap Nv.cs ++ x.cs)) (hg : W.grownBy W' v.ownBlock) : NO2 W' base v' (xs ++ [x]) := by
  refine ⟨by rw [List.length_append, List.flatMap_append]; simpa using ho, fun y hy => ?_⟩
  rcases List.mem_append.1 hy with hy | hy
  · obtain ⟨g1, g2⟩ := h.each y hy
    exact ⟨g1.kept hg (ow_ne_row g1 h.row (by decide)), g2.kept hg (ow_ne_row g2 h.row (by decide))⟩
  · obtain rfl : y = x := by simpa using hy
    exact ⟨hx.1.kept hg (ow_ne_row hx.1 h.row (by decide)), hx.2.kept hg (ow_ne_row hx.2 h.row (by decide))⟩
/-- A box of another type is written to. -/
theorem NO2.far {q F : Nat} {cs : Array Value} {m : Nat × Nat} (h : NO2 W base v xs) (hg : W.grownBy W' (some q)) (hq : W.heap[q]? = some (.cells cs F m)) (h1 : 60 ≠ F) (h2 : 3 ≠ F) (h3 : 5 ≠ F) : NO2 W' base v xs := by
  have key : ∀ {α : Type} {f : α → Value} {E : TypeId} {u : Value} {l : List α}, Ow f E W base u l → E ≠ F → u.ownBlock = none ∨ u.ownBlock ≠ some q := fun {α f E u l} ho hne => by
    rcases ho.2 with ⟨e, _⟩ | ⟨g, cap, cur, e, _, hh, _⟩
    · left; rw [e]; rfl
    · right; rw [e]; intro e3; injection e3 with e3; exact type_ne2 hh hq hne e3
  refine ⟨World.ownsRow.kept h.row hg ?_, fun x hx => ⟨(h.each x hx).1.kept hg (key (h.each x hx).1 h2), (h.each x hx).2.kept hg (key (h.each x hx).2 h3)⟩⟩
  rcases h.row.2 with ⟨e, _⟩ | ⟨g, cap, cur, e, _, hh, _⟩
  · left; rw [e]; rfl
  · right; rw [e]; intro e3; injection e3 with e3; exact type_ne2 hh hq h1 e3
end
/-- What Pick works on. -/
structure PS (w W : World) (q : Nat) (vn vr : Value) (N : Nat) (T : List Int) : Prop where
  gb : Bk W w.heap.size 32 #[vn, vr]
  rb : Bk W (w.heap.size + 1) 32 #[.slice none 0 0, .slice none 0 0]
  to : Ow iV 3 W (w.heap.size + 2) (.slice (some ⟨q, 0, none⟩) N N) T
  bl : Below w.heap.size w W
section
variable {w W W' : World} {q N : Nat} {vn vr : Value} {T : List Int}
theorem PS.below (h : PS w W q vn vr N T) (hb : Below W.heap.size W W') : PS w W' q vn vr N T := ⟨h.gb.below hb h.gb.lt, h.rb.below hb h.rb.lt, h.to.below hb, h.bl.trans (hb.mono h.bl.size)⟩
theorem PS.store (h : PS w W q vn vr N T) {k : Nat} (hk : k < T.length) (z : Int) : PS w (W.setCell ⟨q, k, none⟩ (.int .i64 z)) q vn vr N (T.set k z) := by
  have hq := h.to.ge.1
  exact ⟨h.gb.far (p := ⟨q, k, none⟩) (show w.heap.size ≠ q by omega) _, h.rb.far (p := ⟨q, k, none⟩) (show w.heap.size + 1 ≠ q by omega) _, h.to.set hk z, h.bl.setCell (p := ⟨q, k, none⟩) (show w.heap.size ≤ q by omega) _⟩
end
theorem PS.grown {w W W' : World} {q N : Nat} {vn vr : Value} {T : List Int} {o : Option Nat} (h : PS w W q vn vr N T) (hg : W.grownBy W' o) (ho : ∀ c, o = some c → w.heap.size + 2 ≤ c ∧ c ≠ q) : PS w W' q vn vr N T := by
  refine ⟨(hg.block _ h.gb.lt (fun e => by have := (ho _ e.symm).1; omega)).trans h.gb, (hg.block _ h.rb.lt (fun e => by have := (ho _ e.symm).1; omega)).trans h.rb, h.to.kept hg (.inr (fun e => ?_)), h.bl.trans ((Below.refl _ _).grown hg h.bl.size (fun c e => by have := (ho c e).1; omega))⟩
  have := (ho q e.symm).2
  exact this rfl
theorem ow_ne_bk {α : Type} {f : α → Value} {E F : TypeId} {W : World} {b y : Nat} {u : Value} {l : List α} {cs : Array Value} (h1 : Ow f E W b u l) (h2 : Bk W y F cs) (hne : E ≠ F) : ∀ c, u.ownBlock = some c → ¬ c = y := fun c e e2 => by
  rcases h1.2 with ⟨e3, _⟩ | ⟨g, cap, cur, e3, _, hh, _⟩
  · rw [e3] at e; cases e
  · rw [e3] at e
    injection e with e
    have e4 : g = c := e
    exact type_ne2 hh h2 hne (e4.trans e2)
theorem nv_at {W : World} {base : Nat} {x : Nv} (h1 : Ow iV 3 W base x.vp x.ps) (h2 : Ow b8 5 W base x.vd x.bs) : x.At W W.heap.size := by
  obtain ⟨_, _, e1, hc1⟩ := h1.form
  obtain ⟨_, _, e2, hc2⟩ := h2.form
  unfold Nv.vp at e1 h1
  unfold Nv.vd at e2 h2
  injection e1 with _ _ e1
  injection e2 with _ _ e2
  exact ⟨h1.rd, h2.rd, by omega, by omega⟩
theorem own_le {W : World} {B B' n : Nat} {E : TypeId} {v : Value} {cs : List Value} (h : W.ownsRow B E 2 v n cs) (hb : B' ≤ B) : W.ownsRow B' E 2 v n cs := by
  obtain ⟨h1, h2⟩ := h
  refine ⟨h1, ?_⟩
  rcases h2 with h2 | ⟨g, cap, cur, e, hg, r⟩
  · exact .inl h2
  · exact .inr ⟨g, cap, cur, e, by omega, r⟩
/-- A graph of the reference's of one's own. -/
structure GO2 (W : World) (B : Nat) (g : Gv) : Prop where
  nd : NO2 W B g.vn g.n
  rt : W.ownsRow B 61 2 g.vr g.r.length (g.r.flatMap Rv.cs)
section
variable {W W' : World} {B B' : Nat} {g : Gv} {S : Nat → Prop}
theorem GO2.at_ (h : GO2 W B g) : g.At W W.heap.size := ⟨nrow_of h.nd.row (fun x hx => nv_at (h.nd.each x hx).1 (h.nd.each x hx).2), rrow_of h.rt, (own_len h.nd.row).2, (own_len h.rt).2⟩
theorem GO2.mono (h : GO2 W B g) (hb : B' ≤ B) : GO2 W B' g := ⟨⟨own_le h.nd.row hb, fun x hx => ⟨(h.nd.each x hx).1.mono hb, (h.nd.each x hx).2.mono hb⟩⟩, own_le h.rt hb⟩
theorem GO2.kept (h : GO2 W B g) (hK : Kept S W W') (hS : ∀ k, S k → k < B) : GO2 W' B g := ⟨⟨row_kept hK h.nd.row hS, fun x hx => ⟨hK.ow (h.nd.each x hx).1 (fun c e e2 => by have := ((h.nd.each x hx).1.lt c e).1; have := hS c e2; omega), hK.ow (h.nd.each x hx).2 (fun c e e2 => by have := ((h.nd.each x hx).2.lt c e).1; have := hS c e2; omega)⟩⟩, row_kept hK h.rt hS⟩
theorem GO2.below (h : GO2 W B g) (hb : Below W.heap.size W W') : GO2 W' B g := ⟨h.nd.below hb, ownsRow_below h.rt hb⟩
end
theorem pick_res {tmps : Array Value} {W : World} {g : Nat} {a b y : Value} (hb : Bk W g 32 #[a, b]) (h2 : tmps.getD 4 undef = .pointer (some ⟨g, 0, none⟩)) (h3 : tmps.getD 5 undef = y) :
    (results Try.f34 tmps).run Try.prog W = .ok (.tuple #[.agg #[a, b], y]) W := by
  have hl := run_loadVar_row (P := Try.prog) W g 32 32 #[a, b] (0, 0) _ hb Try.underlying32 rfl (by kernel_rfl)
  have h2' : tmps[4]?.getD undef = .pointer (some ⟨g, 0, none⟩) := by simpa using h2
  have h3' : tmps[5]?.getD undef = y := by simpa using h3
  simp [results, Try.results34, h2', h3', asAddr, hl]
def PkV (B0 : Nat) (v : Value) (w : World) : Prop := ∃ k, v = .pointer (some ⟨k, 0, none⟩) ∧ B0 ≤ k ∧ Bk w k 60 #[.slice none 0 0, .slice none 0 0]
theorem PkV.mono {B0 : Nat} {v : Value} {a b : World} (h : PkV B0 v a) (g : Below a.heap.size a b) : PkV B0 v b := by
  obtain ⟨k, e, h0, h⟩ := h
  exact ⟨k, e, h0, h.below g h.lt⟩
set_option maxHeartbeats 4000000
set_option maxRecDepth 100000
theorem pka_r (Q : Exit → Act → World → Prop) (a0 : Act) (w : World) (gb N cn k F c n xn xc xm xd : Nat) (xA xD : Option Addr) (a ad : Addr) (hs : Hid (∀ W, Below w.heap.size w W → W.cell? ⟨gb, 0, none⟩ = some (.slice (some ad) N cn) ∧ W.cell? (a.add k) = some (.int .i64 ((n : Int) + 1)) ∧ W.cell? (ad.add (n * 2)) = some (.slice xA xn xc) ∧ W.cell? ⟨(ad.add (n * 2)).block, (ad.add (n * 2)).off + 1, none⟩ = some (.slice xD xm xd))) (hn : (n : Int) < (N : Int)) (hN : (N : Int) ≤ 60) (p0 : (0 : Int) ≤ (n : Int)) (p1 : (0 : Int) ≤ (k : Int)) (p2 : (k : Int) < (F : Int)) (hsz : a0.tmps.size = 123) (sl1 : a0.tmps.getD 1 undef = .slice (some a) F c) (sl2 : a0.tmps.getD 2 undef = .pointer (some ⟨gb, 0, none⟩)) (sl9 : a0.tmps.getD 9 undef = .int .i64 k)
    (fin : ∀ (vals : Nat → Value) (w1 : World), Below w.heap.size w w1 → (IsV (.agg #[.slice xA xn xc, .slice xD xm xd])) (vals 8) w1 → (PkV w.heap.size) (vals 9) w1 → wpList Try.prog #[{ dst := none, op := Go.Op.store 60 (Go.Operand.tmp 10) (Go.Operand.tmp 51), type := 0, pos := "", after := #[], guard := none }] Q [{ dst := none, op := Go.Op.store 60 (Go.Operand.tmp 10) (Go.Operand.tmp 51), type := 0, pos := "", after := #[], guard := none }] (putD vals [43, 44, 45, 46, 47, 48, 49, 50, 51, 10] 0 a0) w1) :
    (Code.region 10 (regIn Try.f34 10) true).wp Try.prog Q a0 w := by
  refine region_by_tail (m := 10) (G := fun w w1 => Below w.heap.size w w1) [IsV (.pointer (some ⟨gb, 0, none⟩)),
    IsV (.slice (some ad) N cn),
    IsV (.slice (some a) F c),
    IsV (.int .i64 k),
    IsV (.pointer (some (a.add k))),
    IsV (.int .i64 ((n : Int) + 1)),
    IsV (.int .i64 n),
    IsV (.pointer (some (ad.add (n * 2)))),
    IsV (.agg #[.slice xA xn xc, .slice xD xm xd]),
    PkV w.heap.size]
    [43, 44, 45, 46, 47, 48, 49, 50, 51, 10] (by kernel_rfl) (Gw.drew _) Gw.trans (by rw [hsz]; kernel_rfl) (by kernel_rfl) ?_ ?_ ?_
  · intro f hf
    simp only [List.mem_cons, List.not_mem_nil, or_false] at hf
    rcases hf with rfl | rfl | rfl | rfl | rfl | rfl | rfl | rfl | rfl | rfl <;> intro v a b h g <;> first | exact IsV.mono h | exact PkV.mono h g
  · refine ⟨?_, ?_, ?_, ?_, ?_, ?_, ?_, ?_, ?_, ?_, trivial⟩
    · refine owes_v (Go.Op.fieldAddr 32 (Go.Operand.tmp 2) 0) 0 [] (by kernel_rfl) (by kernel_rfl) (by kernel_rfl) rfl fun vals w1 ρ hG hF hρ hcst hfun => ?_
      have e2 : ρ (.tmp 2) = .pointer (some ⟨gb, 0, none⟩) := ((hρ 2).trans (slotO [] (by kernel_rfl))).trans sl2
      clear hρ hF hcst hfun sl1 sl2 sl9 fin
      exact opv_val (by go_simp <;> rfl) ⟨gw_self _, rfl⟩
    · refine owes_v (Go.Op.load 29 (Go.Operand.tmp 43)) 29 [0] (by kernel_rfl) (by kernel_rfl) (by kernel_rfl) rfl fun vals w1 ρ hG hF hρ hcst hfun => ?_
      have e43 : ρ (.tmp 43) = .pointer (some ⟨gb, 0, none⟩) := ((hρ 43).trans (slotJ [0] (by rw [hsz]; decide) (by kernel_rfl))).trans (hF 0 (by decide))
      have k := (hs.out w1 hG).1
      clear hρ hF hcst hfun sl1 sl2 sl9 fin
      exact opv_val (by go_simp <;> rfl) ⟨gw_self _, rfl⟩
    · exact owes_mv 1 (by kernel_rfl) (by kernel_rfl) (by kernel_rfl) sl1 (fun _ => rfl)
    · exact owes_mv 9 (by kernel_rfl) (by kernel_rfl) (by kernel_rfl) sl9 (fun _ => rfl)
    · refine owes_v (Go.Op.indexAddr 26 (Go.Operand.tmp 45) (Go.Operand.tmp 46)) 0 [2, 3] (by kernel_rfl) (by kernel_rfl) (by kernel_rfl) rfl fun vals w1 ρ hG hF hρ hcst hfun => ?_
      have e45 : ρ (.tmp 45) = .slice (some a) F c := ((hρ 45).trans (slotJ [2, 3] (by rw [hsz]; decide) (by kernel_rfl))).trans (hF 2 (by decide))
      have e46 : ρ (.tmp 46) = .int .i64 k := ((hρ 46).trans (slotJ [2, 3] (by rw [hsz]; decide) (by kernel_rfl))).trans (hF 3 (by decide))
      clear hρ hF hcst hfun sl1 sl2 sl9 fin
      exact opv_val (by go_simp <;> rfl) ⟨gw_self _, rfl⟩
    · refine owes_v (Go.Op.load 3 (Go.Operand.tmp 47)) 3 [4] (by kernel_rfl) (by kernel_rfl) (by kernel_rfl) rfl fun vals w1 ρ hG hF hρ hcst hfun => ?_
      have e47 : ρ (.tmp 47) = .pointer (some (a.add k)) := ((hρ 47).trans (slotJ [4] (by rw [hsz]; decide) (by kernel_rfl))).trans (hF 4 (by decide))
      have k := (hs.out w1 hG).2.1
      clear hρ hF hcst hfun sl1 sl2 sl9 fin
      exact opv_val (by go_simp <;> rfl) ⟨gw_self _, rfl⟩
    · refine owes_v (Go.Op.binOp Go.BinOp.sub 3 (Go.Operand.tmp 48) (Go.Operand.const (Go.Value.int Go.IntKind.i64 1)) 3) 3 [5] (by kernel_rfl) (by kernel_rfl) (by kernel_rfl) rfl fun vals w1 ρ hG hF hρ hcst hfun => ?_
      have e48 : ρ (.tmp 48) = .int .i64 ((n : Int) + 1) := ((hρ 48).trans (slotJ [5] (by rw [hsz]; decide) (by kernel_rfl))).trans (hF 5 (by decide))
      have kw : IntKind.i64.wrap (n : Int) = (n : Int) := wrapIn (by omega) (by omega)
      clear hρ hF hfun sl1 sl2 sl9 fin
      exact opv_val (by go_simp <;> rfl) ⟨gw_self _, rfl⟩
    · refine owes_v (Go.Op.indexAddr 29 (Go.Operand.tmp 44) (Go.Operand.tmp 49)) 0 [1, 6] (by kernel_rfl) (by kernel_rfl) (by kernel_rfl) rfl fun vals w1 ρ hG hF hρ hcst hfun => ?_
      have e44 : ρ (.tmp 44) = .slice (some ad) N cn := ((hρ 44).trans (slotJ [1, 6] (by rw [hsz]; decide) (by kernel_rfl))).trans (hF 1 (by decide))
      have e49 : ρ (.tmp 49) = .int .i64 n := ((hρ 49).trans (slotJ [1, 6] (by rw [hsz]; decide) (by kernel_rfl))).trans (hF 6 (by decide))
      clear hρ hF hcst hfun sl1 sl2 sl9 fin
      exact opv_val (by go_simp <;> rfl) ⟨gw_self _, rfl⟩
    · refine owes_v (Go.Op.load 60 (Go.Operand.tmp 50)) 60 [7] (by kernel_rfl) (by kernel_rfl) (by kernel_rfl) rfl fun vals w1 ρ hG hF hρ hcst hfun => ?_
      have e50 : ρ (.tmp 50) = .pointer (some (ad.add (n * 2))) := ((hρ 50).trans (slotJ [7] (by rw [hsz]; decide) (by kernel_rfl))).trans (hF 7 (by decide))
      have k1 := (hs.out w1 hG).2.2.1
      have k2 := (hs.out w1 hG).2.2.2
      clear hρ hF hcst hfun sl1 sl2 sl9 fin
      exact opv_val (by go_simp <;> rfl) ⟨gw_self _, rfl⟩
    · refine owes_v (Go.Op.alloc 60) 0 [] (by kernel_rfl) (by kernel_rfl) (by kernel_rfl) rfl fun vals w1 ρ hG hF hρ hcst hfun => ?_
      clear hρ hF hcst hfun sl1 sl2 sl9 fin
      exact opv_val (by go_simp <;> rfl) ⟨Gw.alloc _ _, ⟨_, rfl, hG.size, Bk.new w1 _ _⟩⟩
  · intro vals w1 hG hF
    exact last_list (by kernel_rfl) (by kernel_rfl) (by kernel_rfl) (fin vals w1 hG (hF 8 (by decide +kernel)) (hF 9 (by decide +kernel)))
theorem pick_c (w : World) (g : Gv) (hg : g.At w w.heap.size) (hs : FewP g) (hok : ∀ x ∈ g.n, ∀ p ∈ x.ps, okP g.n.length p = true) (hrt : ∀ r ∈ g.r, okP g.n.length r.t = true) (A : Option Addr) (c : Nat) (od : List Int) (hr : Rd iV w w.heap.size A od) (hod : ∀ p ∈ od, hasG g.n.length p = true) (hnd : od.Nodup) (hl : od.length ≤ 1000) :
    Calls Try.prog 34 #[g.v, .slice A od.length c] w fun e w' => ∃ (g' : Gv) (q : Nat), e = .returned (.tuple #[g'.v, .slice (some ⟨q, 0, none⟩) g.n.length g.n.length]) ∧ GO2 w' w.heap.size g' ∧ Ow iV 3 w' w.heap.size (.slice (some ⟨q, 0, none⟩) g.n.length g.n.length) (toO g.n.length od) ∧ g'.n.map Nv.m = pickN g.n od od ∧ g'.r = g.r.map (fun r => ⟨r.s, newO od r.t⟩) ∧ Below w.heap.size w w' := by
  have HG := Lib.hid hg
  have HOk := Lib.hid hok
  have HRt := Lib.hid hrt
  have HP := Lib.hid hs.2.2.1
  have hsn := hs.1
  have hsr := hs.2.1
  have HR := Lib.hid hr
  have HOd := Lib.hid (And.intro hod hnd)
  obtain ⟨GA, ca, A2, ca2, ns, rs⟩ := g
  obtain ⟨N, hN⟩ : ∃ N, N = ns.length := ⟨_, rfl⟩
  obtain ⟨M, hM⟩ : ∃ M, M = rs.length := ⟨_, rfl⟩
  obtain ⟨F, hF⟩ : ∃ F, F = od.length := ⟨_, rfl⟩
  have q0 : (N : Int) ≤ 60 := by rw [hN]; exact Int.ofNat_le.2 hsn
  have q1 : (M : Int) ≤ 80 := by rw [hM]; exact Int.ofNat_le.2 hsr
  have q2 : (F : Int) ≤ 1000 := by omega
  have HN := Lib.hid (And.intro hN (And.intro hF hM))
  unfold Gv.v Gv.vn Gv.vr
  simp only at HP HOk HRt HOd ⊢
  rw [← hN, ← hM, ← hF]
  rw [← hN] at HOk HRt HOd
  clear hg hs hok hrt hsn hsr hr hod hnd hl hN hM hF
  go_enter Try.func34, Try.ntmps34
  go_wp2_with (at_make; refine wp_make (f := iV) oneI rfl _ _ rfl 0 rfl (w.heap.size + 2) N _ _ _ _ rfl rfl rfl rfl (by omega) (by decide) (by simp) ?_; rintro q w2 hq ho2 hb2 _; have H2 := Lib.hid (And.intro ho2 hb2); have HQ := Lib.hid (show q = w.heap.size + 2 from by rw [hq]; simp); clear ho2 hb2 hq)
  have hS0 : PS w w2 q (.slice GA N ca) (.slice A2 M ca2) N (toO N []) := by
    obtain ⟨o1, o2⟩ := H2.out
    have hg0 := ((Bk.new w 32 #[.slice GA N ca, .slice A2 M ca2]).alloc (.cells #[.slice none 0 0, .slice none 0 0] 32)).below o2 (by omega)
    have hg1 : Bk ((w.alloc (.cells #[.slice GA N ca, .slice A2 M ca2] 32)).alloc (.cells #[.slice none 0 0, .slice none 0 0] 32)) (w.heap.size + 1) 32 #[.slice none 0 0, .slice none 0 0] := by
      have := Bk.new (w.alloc (.cells #[.slice GA N ca, .slice A2 M ca2] 32)) 32 #[.slice none 0 0, .slice none 0 0]
      simpa using this
    refine ⟨hg0, hg1.below o2 (by omega), by rw [toO_nil]; exact o1, (((Below.refl _ _).alloc (Nat.le_refl _) _).alloc (by simp) _).trans (o2.mono (by omega))⟩
  have HS0 := Lib.hid hS0
  clear hS0 H2
  go_loopw [7] (fun i W => ∃ k : Nat, i = .int .i64 k ∧ k ≤ F ∧ Hid (PS w W q (.slice GA N ca) (.slice A2 M ca2) N (toO N (od.take k)))) (fun i _ => F - (Go.RowKit.intOf i).toNat)
  case atStart => exact ⟨0, rfl, Nat.zero_le _, Lib.hid HS0.out⟩
  case round =>
    obtain ⟨k, rfl, hk, hS⟩ := hrel
    by_cases hlt : k < F
    · have hko : k < od.length := by rw [← HN.out.2.1]; exact hlt
      obtain ⟨p, hp⟩ : ∃ p, p = od[k] := ⟨_, rfl⟩
      have hpg := hasG_iff.1 (HOd.out.1 p (by rw [hp]; exact List.getElem_mem _))
      obtain ⟨n, rfl, hnN⟩ : ∃ n : Nat, p = (n : Int) + 1 ∧ n < N := ⟨(p - 1).toNat, by omega, by omega⟩
      obtain ⟨a, rfl, ha, hca⟩ := (HR.out.below hS.out.bl) k hko
      rw [← hp] at hca
      unfold iV at hca
      have hno : ((n : Int) + 1) ∉ od.take k := fun e => by
        obtain ⟨i, hi, e2⟩ := List.mem_iff_getElem.1 e
        rw [List.length_take] at hi
        rw [List.getElem_take, hp] at e2
        exact (List.pairwise_iff_getElem.1 HOd.out.2) i k (by omega) hko (by omega) e2
      have hstep := toO_step hnN hno
      rw [hp, ← take_snoc od k hko, List.length_take, Nat.min_eq_left (by omega)] at hstep
      have hst := hS.out.store (k := n) (by rw [toO_len]; exact hnN) ((k : Int) + 1)
      rw [hstep] at hst
      have HSt := Lib.hid hst
      have hcn := hS.out.to.cell (j := n) (by rw [toO_len]; exact hnN)
      have hfn := hS.out.to.free n
      obtain ⟨u, hu⟩ : ∃ u, u = (toO N (od.take k))[n]'(by rw [toO_len]; exact hnN) := ⟨_, rfl⟩
      rw [← hu] at hcn
      unfold iV at hcn
      have p0 : (0 : Int) ≤ (n : Int) := by omega
      have p1 : (0 : Int) ≤ (k : Int) := by omega
      have p2 : (k : Int) < (F : Int) := by omega
      have p3 : (n : Int) < (N : Int) := by omega
      clear hp hpg ha hno hstep hst hu hko
      go_wp2_with fail
      clear hca hcn hfn
      go_roundw
      case rel => first | exact ⟨k + 1, by go_num, by omega, HSt⟩ | exact ⟨_, ⟨k + 1, by go_num, by omega, HSt⟩, rfl⟩
      case measure => simp [Go.RowKit.intOf]; omega
    · have hkF : k = F := by omega
      have hS2 := hS.out
      rw [hkF, List.take_of_length_le (by rw [← HN.out.2.1]; exact Nat.le_refl _)] at hS2
      have HS2 := Lib.hid hS2
      clear hS2 hS hkF
      go_wp2_with fail
      clear hlt hk
      obtain ⟨sb, hsb⟩ : ∃ sb, sb = wr.heap.size := ⟨_, rfl⟩
      obtain ⟨w4, hw4⟩ : ∃ w4, w4 = wr.alloc (.cells #[.slice none 0 0, .slice none 0 0] 32) := ⟨_, rfl⟩
      have H4 := Lib.hid (show Bk w4 sb 32 #[.slice none 0 0, .slice none 0 0] ∧ PS w w4 q (.slice GA N ca) (.slice A2 M ca2) N (toO N od) ∧ w.heap.size + 2 ≤ sb from by
        rw [hw4, hsb]
        exact ⟨Bk.new wr _ _, HS2.out.below (Gw.alloc wr _), by have := HS2.out.to.ge.2; have := HQ.out; omega⟩)
      rw [← hsb, ← hw4]
      clear hsb hw4
      go_loopw [9] (fun i W => ∃ (k : Nat) (VA : Option Addr) (vc : Nat) (xs : List Nv), i = .int .i64 k ∧ k ≤ F ∧ Hid (xs.map Nv.m = pickN ns od (od.take k)) ∧ Hid (NO2 W w4.heap.size (.slice VA k vc) xs) ∧ Bk W sb 32 #[.slice VA k vc, .slice none 0 0] ∧ Hid (PS w W q (.slice GA N ca) (.slice A2 M ca2) N (toO N od)) ∧ Hid (w4.heap.size ≤ W.heap.size)) (fun i _ => F - (Go.RowKit.intOf i).toNat)
      case atStart => exact ⟨0, none, 0, [], rfl, Nat.zero_le _, Lib.hid rfl, Lib.hid ⟨⟨by simp, .inl ⟨rfl, rfl⟩⟩, fun x hx => by cases hx⟩, H4.out.1, Lib.hid H4.out.2.1, Lib.hid (Nat.le_refl _)⟩
      case round =>
        obtain ⟨k, VA, vc, xs, rfl, hk, hm, hno, hb1, hS, hwz⟩ := hrel
        have hxl : xs.length = k := by
          have := congrArg List.length hm.out
          unfold pickN at this
          rw [List.length_map, List.length_map, List.length_take, ← HN.out.2.1] at this
          omega
        have hsbl := hb1.lt
        by_cases hlt : k < F
        · have hko : k < od.length := by rw [← HN.out.2.1]; exact hlt
          obtain ⟨p, hp⟩ : ∃ p, p = od[k] := ⟨_, rfl⟩
          have hpg := hasG_iff.1 (HOd.out.1 p (by rw [hp]; exact List.getElem_mem _))
          obtain ⟨n, rfl, hnN⟩ : ∃ n : Nat, p = (n : Int) + 1 ∧ n < N := ⟨(p - 1).toNat, by omega, by omega⟩
          obtain ⟨a, rfl, ha, hca⟩ := HR.out k hko
          rw [← hp] at hca
          unfold iV at hca
          have hnn : n < ns.length := by rw [← HN.out.1]; exact hnN
          obtain ⟨x, hx⟩ : ∃ x, x = ns[n] := ⟨_, rfl⟩
          obtain ⟨ad, rfl, hc2, hc3, hxa⟩ : ∃ ad, GA = some ad ∧ w.cell? (ad.add (n * 2)) = some x.vp ∧ w.cell? ⟨(ad.add (n * 2)).block, (ad.add (n * 2)).off + 1, none⟩ = some x.vd ∧ x.At w w.heap.size := by
            obtain ⟨ad, e, _, h1, h2, h3⟩ := HG.out.n n hnn
            exact ⟨ad, e, by rw [hx]; exact h1, by rw [hx]; exact h2, by rw [hx]; exact h3⟩
          have hokx := HOk.out x (by rw [hx]; exact List.getElem_mem _)
          have hszx := HP.out x (by rw [hx]; exact List.getElem_mem _)
          have HNx := Lib.hid (show ∀ y : Nv, y.m = (x.ps.map (newO od), x.bs) → (xs ++ [y]).map Nv.m = pickN ns od (od.take (k + 1)) from fun y hy => by
            rw [take_snoc od k hko, List.map_append, hm.out]
            unfold pickN
            rw [List.map_append, ← hp, List.map_singleton, List.map_singleton, hy, pick1_at hnn, ← hx])
          have HXa := Lib.hid hxa
          obtain ⟨xA, xc, xD, xd, xps, xbs⟩ := x
          unfold Nv.vp at hc2
          unfold Nv.vd at hc3
          simp only at hc2 hc3 hokx hszx HNx
          obtain ⟨xn, hxn⟩ : ∃ n, n = xps.length := ⟨_, rfl⟩
          obtain ⟨xm, hxm⟩ : ∃ n, n = xbs.length := ⟨_, rfl⟩
          rw [← hxn] at hc2 hszx
          rw [← hxm] at hc3 hszx
          have HX := Lib.hid (And.intro hxn hxm)
          have HOx := Lib.hid hokx
          have HC := Lib.hid (fun (W : World) (bb : Below wr.heap.size wr W) => show W.cell? ⟨w.heap.size, 0, none⟩ = some (.slice (some ad) N ca) ∧ W.cell? (a.add k) = some (.int .i64 ((n : Int) + 1)) ∧ W.cell? (ad.add (n * 2)) = some (.slice xA xn xc) ∧ W.cell? ⟨(ad.add (n * 2)).block, (ad.add (n * 2)).off + 1, none⟩ = some (.slice xD xm xd) from by
            have bw : Below w.heap.size w W := hS.out.bl.trans (bb.mono hS.out.bl.size)
            exact ⟨(hS.out.gb.below bb hS.out.gb.lt).cell 0, (bw.cell (cell_lt hca)).trans hca, (bw.cell (cell_lt hc2)).trans hc2, (bw.cell (cell_lt hc3)).trans hc3⟩)
          have p0 : (0 : Int) ≤ (n : Int) := by omega
          have p1 : (0 : Int) ≤ (k : Int) := by omega
          have p2 : (k : Int) < (F : Int) := by omega
          have p3 : (n : Int) < (N : Int) := by omega
          have q3 : (xn : Int) ≤ 70 := by omega
          have q4 : (xm : Int) ≤ 1100 := by omega
          have HXl := Lib.hid hxl
          clear hp hpg ha hca hx hxa hc2 hc3 hokx hszx hxn hxm hko hnn hxl hm
          go_wp2_with fail
          refine pka_r _ _ _ w.heap.size N ca k F c n xn xc xm xd xA xD a ad HC p3 q0 p0 p1 p2 rfl rfl rfl rfl ?_
          intro vals w5 hG h51 h10
          unfold IsV at h51
          obtain ⟨xb, h10, hxb, hbx⟩ := h10
          simp only [putD, Act.put, List.setIfInBounds_toArray, List.set_cons_zero, List.set_cons_succ, h51, h10]
          have d0 := hbx.two.1
          have d1 := hbx.two.2
          have f0 := hbx.free 0
          have f1 := hbx.free 1
          have hxbl := hbx.lt
          have H6 := Lib.hid (show Bk ((w5.setCell ⟨xb, 0, none⟩ (.slice xA xn xc)).setCell ⟨xb, 1, none⟩ (.slice xD xm xd)) xb 60 #[.slice xA xn xc, .slice xD xm xd] ∧ Below wr.heap.size wr ((w5.setCell ⟨xb, 0, none⟩ (.slice xA xn xc)).setCell ⟨xb, 1, none⟩ (.slice xD xm xd)) ∧ wr.heap.size ≤ xb from by
            refine ⟨?_, (hG.setCell (p := ⟨xb, 0, none⟩) hxb _).setCell (p := ⟨xb, 1, none⟩) hxb _, hxb⟩
            have h := (hbx.set 0 (.slice xA xn xc)).set 1 (.slice xD xm xd)
            simpa using h)
          have HE := Lib.hid (show Ow b8 5 (((w5.setCell ⟨xb, 0, none⟩ (.slice xA xn xc)).setCell ⟨xb, 1, none⟩ (.slice xD xm xd)).alloc (.cells #[] 5)) wr.heap.size (.slice (some ⟨w5.heap.size, 0, none⟩) 0 0) [] from by
            have := ow_empty b8 5 ((w5.setCell ⟨xb, 0, none⟩ (.slice xA xn xc)).setCell ⟨xb, 1, none⟩ (.slice xD xm xd)) wr.heap.size H6.out.2.1.size
            simpa [World.setCell] using this)
          have HRb := Lib.hid (show Rd b8 (((w5.setCell ⟨xb, 0, none⟩ (.slice xA xn xc)).setCell ⟨xb, 1, none⟩ (.slice xD xm xd)).alloc (.cells #[] 5)) w.heap.size xD xbs ∧ wr.heap.size ≤ (((w5.setCell ⟨xb, 0, none⟩ (.slice xA xn xc)).setCell ⟨xb, 1, none⟩ (.slice xD xm xd)).alloc (.cells #[] 5)).heap.size from ⟨HXa.out.b.below (hS.out.bl.trans ((H6.out.2.1.trans ((Gw.alloc _ _).mono H6.out.2.1.size)).mono hS.out.bl.size)), (H6.out.2.1.trans ((Gw.alloc _ _).mono H6.out.2.1.size)).size⟩)
          have hml : ([] : List (BitVec 8)).length + xbs.length ≤ 4294967296 := by rw [← HX.out.2]; simp; omega
          clear h51 h10 hbx hxb hG HC
          go_wp2_with (at_builtin; refine wp_app one8 b8_one rfl (.tmp 52) (.tmp 54) rfl wr.heap.size _ [] rfl HE.out xD xm xd xbs rfl HX.out.2 w.heap.size HRb.out.1 hml (by decide) HRb.out.2 ?_; intro v7 w7 ho7 hb7 hg7 hv7; rw [List.nil_append] at ho7; obtain ⟨DA, dc, rfl, _⟩ := ho7.form; rw [← HX.out.2] at ho7 ⊢; have H7 := Lib.hid (And.intro ho7 (show Below wr.heap.size wr w7 ∧ Bk w7 xb 60 #[.slice xA xn xc, .slice xD xm xd] from ⟨(H6.out.2.1.trans ((Gw.alloc _ _).mono H6.out.2.1.size)).trans hb7, (by have h := H6.out.1.alloc (.cells #[] 5); exact (hg7.block xb h.lt (fun e => by have e2 : xb = w5.heap.size := (by injection e); omega)).trans h)⟩)); clear ho7 hb7 hg7 hv7)
          clear d0 d1 f0 f1 hxbl hml HE HRb H6
          obtain ⟨yb, hyb⟩ : ∃ yb, yb = w7.heap.size := ⟨_, rfl⟩
          obtain ⟨W8, hW8⟩ : ∃ W8, W8 = w7.alloc (.cells #[.slice none 0 0, .slice DA xm dc] 60) := ⟨_, rfl⟩
          have H8 := Lib.hid (show Bk W8 yb 60 #[.slice none 0 0, .slice DA xm dc] ∧ Bk W8 xb 60 #[.slice xA xn xc, .slice xD xm xd] ∧ Ow b8 5 W8 wr.heap.size (.slice DA xm dc) xbs ∧ Below wr.heap.size wr W8 ∧ xb < yb ∧ wr.heap.size ≤ yb ∧ yb < W8.heap.size from by
            obtain ⟨h1, h2, h3⟩ := H7.out
            rw [hW8, hyb]
            exact ⟨Bk.new w7 _ _, h3.alloc _, h1.alloc _, h2.trans ((Gw.alloc w7 _).mono h2.size), h3.lt, h2.size, by simp⟩)
          rw [← hyb, ← hW8]
          clear hyb hW8 H7
          obtain ⟨V0, hV0⟩ : ∃ V0, V0 = wr := ⟨_, rfl⟩
          rw [← hV0] at hno hb1 hS hwz hsbl H8
          clear hV0
          have HYl := Lib.hid H8.out.2.2.2.2.2.2
          go_loopw [12] (fun i W => ∃ (j : Nat) (PA : Option Addr) (pc : Nat), i = .int .i64 j ∧ j ≤ xn ∧ Hid (Ow iV 3 W W8.heap.size (.slice PA j pc) ((xps.take j).map (newO od))) ∧ Bk W yb 60 #[.slice PA j pc, .slice DA xm dc] ∧ Hid (Kept (fun b => b = yb) W8 W)) (fun i _ => xn - (Go.RowKit.intOf i).toNat)
          case atStart => exact ⟨0, none, 0, rfl, Nat.zero_le _, Lib.hid (Ow.nil_ _ _ _ _), H8.out.1, Lib.hid (Kept.refl _ _)⟩
          case round =>
            obtain ⟨j, PA, pc, rfl, hj, ho, hb2, hK⟩ := hrel
            have hxk := hK.out.bk H8.out.2.1 (show ¬ (xb = yb) from by have := H8.out.2.2.2.2.1; omega)
            have x0 := hxk.two.1
            have x1 := hxk.two.2
            have hxl := hxk.lt
            clear hxk
            by_cases hlj : j < xn
            · have hjl : j < xps.length := by rw [← HX.out.1]; exact hlj
              obtain ⟨z, hz⟩ : ∃ z, z = xps[j] := ⟨_, rfl⟩
              have hzo := okP_iff.1 (HOx.out z (by rw [hz]; exact List.getElem_mem _))
              have hbw : Below w.heap.size w wr := by
                have h1 := hS.out.bl.trans (H8.out.2.2.2.1.mono hS.out.bl.size)
                exact h1.trans (hK.out.below h1.size (fun c e => by rw [e]; have := H8.out.2.2.2.2.2.1; have := hS.out.bl.size; omega))
              obtain ⟨ax, rfl, hax, hca⟩ := (HXa.out.p.below hbw) j hjl
              rw [← hz] at hca
              unfold iV at hca
              have HTk := Lib.hid (show (xps.take (j + 1)).map (newO od) = (xps.take j).map (newO od) ++ [newO od z] from by rw [take_snoc xps j hjl, List.map_append, ← hz]; rfl)
              have p4 : (0 : Int) ≤ (j : Int) := by omega
              have p5 : (j : Int) < (xn : Int) := by omega
              have hto : Ow iV 3 wr (w.heap.size + 2) (.slice (some ⟨q, 0, none⟩) N N) (toO N od) := hK.out.ow (hS.out.to.below H8.out.2.2.2.1) (fun c e e2 => by injection e with e; have e3 : q = c := e; have h1 := hS.out.to.ge.2; have h2 := H8.out.2.2.2.2.2.1; omega)
              clear hz hjl hbw hax
              by_cases hz0 : z = 0
              · subst hz0
                have hn0 : newO od 0 = 0 := newO_zero (fun p hp => by have := hasG_iff.1 (HOd.out.1 p hp); omega)
                rw [hn0] at HTk
                clear hn0 hto
                have e0 := hb2.two.1
                have f0 := hb2.free 0
                have hyl := hb2.lt
                have hln9 : ((xps.take j).map (newO od) ++ [0]).length = j + 1 := by rw [List.length_append, List.length_map, List.length_take, ← HX.out.1]; simp; omega
                have hml : ((xps.take j).map (newO od)).length + 1 ≤ 4294967296 := by rw [List.length_map, List.length_take, ← HX.out.1]; omega
                have HL9 := Lib.hid (And.intro hln9 hml)
                have HB2 := Lib.hid hb2
                clear hb2 hln9 hml
                go_wp2_with (at_builtin; refine wp_app oneI iV_one rfl (.tmp 80) (.tmp 82) rfl W8.heap.size _ ((xps.take j).map (newO od)) rfl (ho.out.alloc _) (some ⟨wr.heap.size, 0, none⟩) 1 1 [0] rfl rfl (wr.heap.size + 1) (rd1_new (f := iV) rfl) HL9.out.2 (by decide) (Nat.le_trans hK.out.size (Gw.alloc _ _).size) ?_; intro v9 w9 ho9 hb9 hg9 _; obtain ⟨PA9, pc9, rfl, _⟩ := ho9.form; rw [HL9.out.1] at ho9 ⊢; have hQ9 := (HB2.out.alloc (.cells #[.int .i64 0] 3)).below hb9 HYl.out; have q90 := hQ9.two.1; have q9f := hQ9.free 0; have H9 := Lib.hid (And.intro ho9 (And.intro hb9 hQ9)); clear ho9 hb9 hg9 hQ9)
                have X : ∃ (j' : Nat) (PA' : Option Addr) (pc' : Nat), (Value.int .i64 ((j : Int) + 1)) = .int .i64 j' ∧ j' ≤ xn ∧ Hid (Ow iV 3 (w9.setCell ⟨yb, 0, none⟩ (.slice PA9 (j + 1) pc9)) W8.heap.size (.slice PA' j' pc') ((xps.take j').map (newO od))) ∧ Bk (w9.setCell ⟨yb, 0, none⟩ (.slice PA9 (j + 1) pc9)) yb 60 #[.slice PA' j' pc', .slice DA xm dc] ∧ Hid (Kept (fun b => b = yb) W8 (w9.setCell ⟨yb, 0, none⟩ (.slice PA9 (j + 1) pc9))) := by
                  obtain ⟨h1, h2, h3⟩ := H9.out
                  refine ⟨j + 1, PA9, pc9, by go_num, by omega, Lib.hid ?_, h3.set 0 _, Lib.hid (((hK.out.trans (Kept.of_below (Gw.alloc wr _) _)).bel h2).trans (Kept.set w9 yb 0 _))⟩
                  rw [HTk.out]
                  refine h1.kept (grown_set w9 ⟨yb, 0, none⟩ _) ?_
                  cases e : (Value.slice PA9 (j + 1) pc9).ownBlock with
                  | none => exact .inl rfl
                  | some c => exact .inr (fun e2 => by injection e2 with e2; have e3 : c = yb := e2; have := (h1.lt c e).1; have := HYl.out; omega)
                clear q90 q9f H9 e0 f0 hyl
                go_roundw
                case rel => first | exact X | (obtain ⟨j', PA', pc', x1, x2, x3, x4, x5⟩ := X; exact ⟨_, _, _, _, _, _, _, _, _, _, _, _, _, ⟨j', PA', pc', x1, x2, x3, x4, x5⟩, rfl⟩)
                case measure => simp [Go.RowKit.intOf]; omega
              · obtain ⟨n', rfl, hn'⟩ : ∃ n' : Nat, z = (n' : Int) + 1 ∧ n' < N := ⟨(z - 1).toNat, by omega, by omega⟩
                have hcn := hto.cell (j := n') (by rw [toO_len]; exact hn')
                have hu : (toO N od)[n']'(by rw [toO_len]; exact hn') = newO od ((n' : Int) + 1) := by
                  have := toO_get (l := od) hn'
                  rw [List.getElem?_eq_getElem (by rw [toO_len]; exact hn')] at this
                  injection this
                rw [hu] at hcn
                unfold iV at hcn
                obtain ⟨y, hy⟩ : ∃ y, y = newO od ((n' : Int) + 1) := ⟨_, rfl⟩
                rw [← hy] at hcn HTk
                have p6 : (0 : Int) ≤ (n' : Int) := by omega
                have p7 : (n' : Int) < (N : Int) := by omega
                have hnz : ¬ (n' : Int) + 1 = 0 := by omega
                clear hto hu hy hz0 hzo
                have e0 := hb2.two.1
                have f0 := hb2.free 0
                have hyl := hb2.lt
                have hln9 : ((xps.take j).map (newO od) ++ [y]).length = j + 1 := by rw [List.length_append, List.length_map, List.length_take, ← HX.out.1]; simp; omega
                have hml : ((xps.take j).map (newO od)).length + 1 ≤ 4294967296 := by rw [List.length_map, List.length_take, ← HX.out.1]; omega
                have HL9 := Lib.hid (And.intro hln9 hml)
                have HB2 := Lib.hid hb2
                clear hb2 hln9 hml
                go_wp2_with (at_builtin; refine wp_app oneI iV_one rfl (.tmp 80) (.tmp 82) rfl W8.heap.size _ ((xps.take j).map (newO od)) rfl (ho.out.alloc _) (some ⟨wr.heap.size, 0, none⟩) 1 1 [y] rfl rfl (wr.heap.size + 1) (rd1_new (f := iV) rfl) HL9.out.2 (by decide) (Nat.le_trans hK.out.size (Gw.alloc _ _).size) ?_; intro v9 w9 ho9 hb9 hg9 _; obtain ⟨PA9, pc9, rfl, _⟩ := ho9.form; rw [HL9.out.1] at ho9 ⊢; have hQ9 := (HB2.out.alloc (.cells #[.int .i64 y] 3)).below hb9 HYl.out; have q90 := hQ9.two.1; have q9f := hQ9.free 0; have H9 := Lib.hid (And.intro ho9 (And.intro hb9 hQ9)); clear ho9 hb9 hg9 hQ9)
                have X : ∃ (j' : Nat) (PA' : Option Addr) (pc' : Nat), (Value.int .i64 ((j : Int) + 1)) = .int .i64 j' ∧ j' ≤ xn ∧ Hid (Ow iV 3 (w9.setCell ⟨yb, 0, none⟩ (.slice PA9 (j + 1) pc9)) W8.heap.size (.slice PA' j' pc') ((xps.take j').map (newO od))) ∧ Bk (w9.setCell ⟨yb, 0, none⟩ (.slice PA9 (j + 1) pc9)) yb 60 #[.slice PA' j' pc', .slice DA xm dc] ∧ Hid (Kept (fun b => b = yb) W8 (w9.setCell ⟨yb, 0, none⟩ (.slice PA9 (j + 1) pc9))) := by
                  obtain ⟨h1, h2, h3⟩ := H9.out
                  refine ⟨j + 1, PA9, pc9, by go_num, by omega, Lib.hid ?_, h3.set 0 _, Lib.hid (((hK.out.trans (Kept.of_below (Gw.alloc wr _) _)).bel h2).trans (Kept.set w9 yb 0 _))⟩
                  rw [HTk.out]
                  refine h1.kept (grown_set w9 ⟨yb, 0, none⟩ _) ?_
                  cases e : (Value.slice PA9 (j + 1) pc9).ownBlock with
                  | none => exact .inl rfl
                  | some c => exact .inr (fun e2 => by injection e2 with e2; have e3 : c = yb := e2; have := (h1.lt c e).1; have := HYl.out; omega)
                clear q90 q9f H9 e0 f0 hyl
                go_roundw
                case rel => first | exact X | (obtain ⟨j', PA', pc', x1, x2, x3, x4, x5⟩ := X; exact ⟨_, _, _, _, _, _, _, _, _, _, _, _, _, ⟨j', PA', pc', x1, x2, x3, x4, x5⟩, rfl⟩)
                case measure => simp [Go.RowKit.intOf]; omega
            · have hjx : j = xn := by omega
              subst hjx
              have hps := ho.out
              rw [List.take_of_length_le (by rw [← HX.out.1]; exact Nat.le_refl _)] at hps
              have hVw : Below V0.heap.size V0 wr := H8.out.2.2.2.1.trans (hK.out.below H8.out.2.2.2.1.size (fun c e => by rw [e]; exact H8.out.2.2.2.2.2.1))
              have hbs := hK.out.ow H8.out.2.2.1 (fun c e => ow_ne_bk H8.out.2.2.1 H8.out.1 (by decide) c e)
              have hsb := hb1.below hVw hb1.lt
              have hn2 := hno.out.below hVw
              have hp2 := hS.out.below hVw
              have hrow := hn2.row
              rw [HXl.out] at hrow
              have s0 := hsb.two.1
              have y0 := hb2.two.1
              have y1 := hb2.two.2
              have hsl := hsb.lt
              have hyl := hb2.lt
              have hz8 : w4.heap.size ≤ W8.heap.size := Nat.le_trans hwz.out H8.out.2.2.2.1.size
              have hz9 : w4.heap.size ≤ wr.heap.size := Nat.le_trans hz8 hK.out.size
              have HN2 := Lib.hid (And.intro hn2 (And.intro hp2 (And.intro hsb (And.intro (hps.mono hz8) (hbs.mono hwz.out)))))
              obtain ⟨i0, hi, hz0, hz1, hz2⟩ := info_parts infoN7
              have HI := Lib.hid (And.intro hi (And.intro hz0 (And.intro hz1 hz2)))
              have HRow := Lib.hid (And.intro (ownsRow_below hrow (Gw.alloc wr (.cells #[.slice PA j pc, .slice DA xm dc] 60))) (Nat.le_trans hz9 (Gw.alloc wr (.cells #[.slice PA j pc, .slice DA xm dc] 60)).size))
              have HOne := Lib.hid (show ∀ u ∈ [Value.slice PA j pc, .slice DA xm dc], u.oneCell' = true from fun u hu => by
                simp only [List.mem_cons, List.not_mem_nil, or_false] at hu
                rcases hu with rfl | rfl <;> rfl)
              have hkF : (k : Int) ≤ 1000 := by omega
              clear hps hVw hbs hsb hn2 hp2 hrow hz8 hz9 hi hz0 hz1 hz2 hb1 ho hb2
              go_wp2_with (at_builtin; refine wp_appR 2 i0 Try.underlying29 HI.out.1 HI.out.2.1 HI.out.2.2.1 HI.out.2.2.2 (by rfl) (by decide) rfl (.tmp 86) (.tmp 88) rfl w4.heap.size _ k _ rfl HRow.out.1 ⟨wr.heap.size, 0, none⟩ 1 1 [.slice PA j pc, .slice DA xm dc] rfl rfl (two_news (Bk.new wr _ _)) HOne.out (by unfold maxLen; omega) (by omega) HRow.out.2 ?_; intro v5 w9 ho5 hb5 hg5 hv5; obtain ⟨A5, c5, rfl⟩ := own_form ho5; have hQ5 := (HN2.out.2.2.1.alloc (.cells #[.slice PA j pc, .slice DA xm dc] 60)).below hb5 H4.out.1.lt; have q50 := hQ5.two.1; have q5f := hQ5.free 0; have H9 := Lib.hid (And.intro ho5 (And.intro hb5 (And.intro hg5 hQ5))); clear ho5 hb5 hg5 hv5 hQ5)
              have X : ∃ (k' : Nat) (VA' : Option Addr) (vc' : Nat) (xs' : List Nv), (Value.int .i64 ((k : Int) + 1)) = .int .i64 k' ∧ k' ≤ F ∧ Hid (xs'.map Nv.m = pickN ns od (od.take k')) ∧ Hid (NO2 (w9.setCell ⟨sb, 0, none⟩ (.slice A5 (k + 1) c5)) w4.heap.size (.slice VA' k' vc') xs') ∧ Bk (w9.setCell ⟨sb, 0, none⟩ (.slice A5 (k + 1) c5)) sb 32 #[.slice VA' k' vc', .slice none 0 0] ∧ Hid (PS w (w9.setCell ⟨sb, 0, none⟩ (.slice A5 (k + 1) c5)) q (.slice (some ad) N ca) (.slice A2 M ca2) N (toO N od)) ∧ Hid (w4.heap.size ≤ (w9.setCell ⟨sb, 0, none⟩ (.slice A5 (k + 1) c5)).heap.size) := by
                obtain ⟨h1, h2, h3, h4⟩ := H9.out
                obtain ⟨n1, n2, n3, n4, n5⟩ := HN2.out
                have hcs : (⟨PA, pc, DA, dc, xps.map (newO od), xbs⟩ : Nv).cs = [.slice PA j pc, .slice DA xm dc] := by
                  show [Value.slice PA (xps.map (newO od)).length pc, Value.slice DA xbs.length dc] = _
                  rw [List.length_map, ← HX.out.1, ← HX.out.2]
                have hvp : (⟨PA, pc, DA, dc, xps.map (newO od), xbs⟩ : Nv).vp = .slice PA j pc := by injection hcs
                have hvd : (⟨PA, pc, DA, dc, xps.map (newO od), xbs⟩ : Nv).vd = .slice DA xm dc := by injection hcs with _ h; injection h
                have hN9 : NO2 w9 w4.heap.size (.slice A5 (k + 1) c5) (xs ++ [⟨PA, pc, DA, dc, xps.map (newO od), xbs⟩]) := by
                  refine (n1.below (Gw.alloc wr (.cells #[.slice PA j pc, .slice DA xm dc] 60))).app ⟨?_, ?_⟩ ?_ h3
                  · rw [hvp]; exact n4.alloc _
                  · rw [hvd]; exact n5.alloc _
                  · rw [hcs, HXl.out]; exact h1
                refine ⟨k + 1, A5, c5, _, by go_num, by omega, Lib.hid (HNx.out _ rfl), Lib.hid (hN9.far (grown_set w9 ⟨sb, 0, none⟩ _) h4 (by decide) (by decide) (by decide)), h4.set 0 _, Lib.hid ?_, Lib.hid ?_⟩
                · have hq4 := H4.out.2.1.to.ge.2
                  have hp9 := (n2.below (Gw.alloc wr (.cells #[.slice PA j pc, .slice DA xm dc] 60))).grown h3 (fun c e => by
                    have h := (World.ownsRow.lt HRow.out.1 c e).1
                    have := H4.out.2.2
                    have := H4.out.1.lt
                    omega)
                  refine hp9.grown (grown_set w9 ⟨sb, 0, none⟩ _) (fun c e => ?_)
                  have e3 : sb = c := by injection e
                  have := H4.out.2.2
                  refine ⟨by omega, fun e4 => ?_⟩
                  have := ow_ne_bk hp9.to h4 (by decide) q rfl
                  omega
                · have := h2.size
                  have h9 := HRow.out.2
                  simp only [World.setCell]
                  have e : ∀ (W : World) (p : Addr) (v : Value), (W.setCell p v).heap.size = W.heap.size := fun W p v => by simp [World.setCell]
                  have := e w9 ⟨sb, 0, none⟩ (.slice A5 (k + 1) c5)
                  simp only [World.setCell] at this
                  omega
              clear q50 q5f H9 s0 y0 y1
              go_wp2_with fail
              go_roundw
              case rel => exact X
              case measure => simp [Go.RowKit.intOf]; omega
        · have hkF : k = F := by omega
          have hmf := hm.out
          rw [hkF, List.take_of_length_le (by rw [← HN.out.2.1]; exact Nat.le_refl _)] at hmf
          have HSb := Lib.hid hsbl
          have HF1 := Lib.hid (And.intro hno.out (And.intro hmf (And.intro hS.out (And.intro hxl (And.intro hwz.out hb1)))))
          have g0 := hS.out.gb.two.2
          clear hm hno hS hxl hmf hwz
          obtain ⟨N0, hN0⟩ : ∃ N0, N0 = k := ⟨_, rfl⟩
          rw [← hN0] at HF1 hb1
          clear hN0
          go_wp2_with fail
          clear g0 hlt hk hkF
          obtain ⟨V1, hV1⟩ : ∃ V1, V1 = wr := ⟨_, rfl⟩
          rw [← hV1] at HF1 HSb hb1 ⊢
          clear hV1 hsbl
          go_loopw [14] (fun i W => ∃ (k : Nat) (RA : Option Addr) (rc : Nat), i = .int .i64 k ∧ k ≤ M ∧ Hid (W.ownsRow V1.heap.size 61 2 (.slice RA k rc) k (((rs.take k).map fun r => (⟨r.s, newO od r.t⟩ : Rv)).flatMap Rv.cs)) ∧ Bk W sb 32 #[.slice VA N0 vc, .slice RA k rc] ∧ Hid (Kept (fun b => b = sb) V1 W)) (fun i _ => M - (Go.RowKit.intOf i).toNat)
          case atStart => exact ⟨0, none, 0, rfl, Nat.zero_le _, Lib.hid ⟨by simp, .inl ⟨rfl, rfl⟩⟩, hb1, Lib.hid (Kept.refl _ _)⟩
          case round =>
            clear hb1
            obtain ⟨k, RA, rc, rfl, hk, hro, hb1, hK⟩ := hrel
            have hsl := hb1.lt
            have hsb2 := H4.out.2.2
            have HPS := Lib.hid (show PS w wr q (.slice GA N ca) (.slice A2 M ca2) N (toO N od) from by
              obtain ⟨_, _, h3, _, _, h6⟩ := HF1.out
              have hne : ∀ b, ¬ b = sb → ¬ (b = sb) := fun _ h => h
              refine ⟨hK.out.bk h3.gb (by omega), hK.out.bk h3.rb (by omega), hK.out.ow h3.to (ow_ne_bk h3.to h6 (by decide)), h3.bl.trans (hK.out.below h3.bl.size (fun c e => by rw [e]; omega))⟩)
            have g1 := HPS.out.gb.two.2
            have hgl := HPS.out.gb.lt
            by_cases hlt : k < M
            · have hkl : k < rs.length := by rw [← HN.out.2.2]; exact hlt
              obtain ⟨x, hx⟩ : ∃ x, x = rs[k] := ⟨_, rfl⟩
              obtain ⟨ad, rfl, hc2, hc3⟩ : ∃ ad, A2 = some ad ∧ wr.cell? (ad.add (k * 2)) = some (.string x.s) ∧ wr.cell? ⟨(ad.add (k * 2)).block, (ad.add (k * 2)).off + 1, none⟩ = some (.int .i64 x.t) := by
                obtain ⟨ad, e, _, h1, h2⟩ := (HG.out.r.below HPS.out.bl) k hkl
                exact ⟨ad, e, by rw [hx]; exact h1, by rw [hx]; exact h2⟩
              have hto := okP_iff.1 (HRt.out x (by rw [hx]; exact List.getElem_mem _))
              have HTk := Lib.hid (show ((rs.take (k + 1)).map fun r => (⟨r.s, newO od r.t⟩ : Rv)).flatMap Rv.cs = ((rs.take k).map fun r => (⟨r.s, newO od r.t⟩ : Rv)).flatMap Rv.cs ++ [.string x.s, .int .i64 (newO od x.t)] from by
                rw [take_snoc rs k hkl, List.map_append, List.flatMap_append, ← hx]; simp [Rv.cs])
              obtain ⟨s, tt⟩ := x
              simp only at hc2 hc3 hto HTk
              have hcl := cell_lt hc2
              have hcl' : (ad.add (k * 2)).block < wr.heap.size := hcl
              have p1 : (0 : Int) ≤ (k : Int) := by omega
              have p2 : (k : Int) < (M : Int) := by omega
              have e1 := hb1.two.2
              have e1f := hb1.free 1
              obtain ⟨i0, hi, hz0, hz1, hz2⟩ := info_parts infoR7
              have HI := Lib.hid (And.intro hi (And.intro hz0 (And.intro hz1 hz2)))
              clear hx hkl hcl hi hz0 hz1 hz2
              by_cases ht0 : tt = 0
              · subst ht0
                have hn0 : newO od 0 = 0 := newO_zero (fun p hp => by have := hasG_iff.1 (HOd.out.1 p hp); omega)
                rw [hn0] at HTk
                clear hn0 hto
                have b5 : Below wr.heap.size wr ((wr.alloc (.cells #[.string s, .int .i64 0] 61)).alloc (.cells #[.string s, .int .i64 0] 61)) := (Gw.alloc wr _).trans ((Gw.alloc _ _).mono (by simp))
                have n5 : Bk ((wr.alloc (.cells #[.string s, .int .i64 0] 61)).alloc (.cells #[.string s, .int .i64 0] 61)) (wr.heap.size + 1) 61 #[.string s, .int .i64 0] := by
                  have := Bk.new (wr.alloc (.cells #[.string s, .int .i64 0] 61)) 61 #[.string s, .int .i64 0]
                  simpa using this
                have HB5 := Lib.hid b5
                have HRow := Lib.hid (And.intro (ownsRow_below hro.out b5) (And.intro (two_news n5) (show V1.heap.size ≤ ((wr.alloc (.cells #[.string s, .int .i64 0] 61)).alloc (.cells #[.string s, .int .i64 0] 61)).heap.size from Nat.le_trans hK.out.size b5.size)))
                have HOne := Lib.hid (show ∀ u ∈ [Value.string s, .int .i64 0], u.oneCell' = true from fun u hu => by
                  simp only [List.mem_cons, List.not_mem_nil, or_false] at hu
                  rcases hu with rfl | rfl <;> rfl)
                have HB1 := Lib.hid hb1
                clear b5 n5 hb1
                go_wp2_with (at_builtin; refine wp_appR 2 i0 Try.underlying30 HI.out.1 HI.out.2.1 HI.out.2.2.1 HI.out.2.2.2 (by rfl) (by decide) rfl (.tmp 113) (.tmp 118) rfl V1.heap.size _ k _ rfl HRow.out.1 ⟨wr.heap.size + 1, 0, none⟩ 1 1 [.string s, .int .i64 0] rfl rfl HRow.out.2.1 HOne.out (by unfold maxLen; omega) (by omega) HRow.out.2.2 ?_; intro v5 w9 ho5 hb5 hg5 hv5; obtain ⟨A5, c5, rfl⟩ := own_form ho5; have hQ5 := (HB1.out.below HB5.out hsl).below hb5 HSb.out; have q50 := hQ5.two.2; have q5f := hQ5.free 1; have H9 := Lib.hid (And.intro ho5 (And.intro hb5 hQ5)); clear ho5 hb5 hg5 hv5 hQ5)
                have X : ∃ (k' : Nat) (RA' : Option Addr) (rc' : Nat), (Value.int .i64 ((k : Int) + 1)) = .int .i64 k' ∧ k' ≤ M ∧ Hid ((w9.setCell ⟨sb, 1, none⟩ (.slice A5 (k + 1) c5)).ownsRow V1.heap.size 61 2 (.slice RA' k' rc') k' (((rs.take k').map fun r => (⟨r.s, newO od r.t⟩ : Rv)).flatMap Rv.cs)) ∧ Bk (w9.setCell ⟨sb, 1, none⟩ (.slice A5 (k + 1) c5)) sb 32 #[.slice VA N0 vc, .slice RA' k' rc'] ∧ Hid (Kept (fun b => b = sb) V1 (w9.setCell ⟨sb, 1, none⟩ (.slice A5 (k + 1) c5))) := by
                  obtain ⟨h1, h2, h3⟩ := H9.out
                  refine ⟨k + 1, A5, c5, by go_num, by omega, Lib.hid ?_, h3.set 1 _, Lib.hid (((hK.out.trans (Kept.of_below HB5.out _)).bel h2).trans (Kept.set w9 sb 1 _))⟩
                  rw [HTk.out]
                  refine World.ownsRow.kept h1 (grown_set w9 ⟨sb, 1, none⟩ _) ?_
                  cases e : (Value.slice A5 (k + 1) c5).ownBlock with
                  | none => exact .inl rfl
                  | some c => exact .inr (fun e2 => by injection e2 with e2; have e3 : c = sb := e2; have := (World.ownsRow.lt h1 c e).1; have := HSb.out; omega)
                clear q50 q5f H9
                go_wp2_with fail
                go_roundw
                case rel => first | exact X | exact ⟨_, _, _, _, _, _, _, _, _, _, _, _, _, _, _, _, _, _, _, _, _, _, _, X, rfl⟩
                case measure => simp [Go.RowKit.intOf]; omega
              · obtain ⟨n', rfl, hn'⟩ : ∃ n' : Nat, tt = (n' : Int) + 1 ∧ n' < N := ⟨(tt - 1).toNat, by omega, by omega⟩
                have hcn := HPS.out.to.cell (j := n') (by rw [toO_len]; exact hn')
                have hu : (toO N od)[n']'(by rw [toO_len]; exact hn') = newO od ((n' : Int) + 1) := by
                  have := toO_get (l := od) hn'
                  rw [List.getElem?_eq_getElem (by rw [toO_len]; exact hn')] at this
                  injection this
                rw [hu] at hcn
                unfold iV at hcn
                obtain ⟨y, hy⟩ : ∃ y, y = newO od ((n' : Int) + 1) := ⟨_, rfl⟩
                rw [← hy] at hcn HTk
                have p6 : (0 : Int) ≤ (n' : Int) := by omega
                have p7 : (n' : Int) < (N : Int) := by omega
                have hnz : ¬ (n' : Int) + 1 = 0 := by omega
                have hql := HPS.out.to.ge.2
                clear hu hy ht0 hto
                have b5 : Below wr.heap.size wr ((wr.alloc (.cells #[.string s, .int .i64 ((n' : Int) + 1)] 61)).alloc (.cells #[.string s, .int .i64 y] 61)) := (Gw.alloc wr _).trans ((Gw.alloc _ _).mono (by simp))
                have n5 : Bk ((wr.alloc (.cells #[.string s, .int .i64 ((n' : Int) + 1)] 61)).alloc (.cells #[.string s, .int .i64 y] 61)) (wr.heap.size + 1) 61 #[.string s, .int .i64 y] := by
                  have := Bk.new (wr.alloc (.cells #[.string s, .int .i64 ((n' : Int) + 1)] 61)) 61 #[.string s, .int .i64 y]
                  simpa using this
                have HB5 := Lib.hid b5
                have HRow := Lib.hid (And.intro (ownsRow_below hro.out b5) (And.intro (two_news n5) (show V1.heap.size ≤ ((wr.alloc (.cells #[.string s, .int .i64 ((n' : Int) + 1)] 61)).alloc (.cells #[.string s, .int .i64 y] 61)).heap.size from Nat.le_trans hK.out.size b5.size)))
                have HOne := Lib.hid (show ∀ u ∈ [Value.string s, .int .i64 y], u.oneCell' = true from fun u hu => by
                  simp only [List.mem_cons, List.not_mem_nil, or_false] at hu
                  rcases hu with rfl | rfl <;> rfl)
                have HB1 := Lib.hid hb1
                clear b5 n5 hb1
                go_wp2_with (at_builtin; refine wp_appR 2 i0 Try.underlying30 HI.out.1 HI.out.2.1 HI.out.2.2.1 HI.out.2.2.2 (by rfl) (by decide) rfl (.tmp 113) (.tmp 118) rfl V1.heap.size _ k _ rfl HRow.out.1 ⟨wr.heap.size + 1, 0, none⟩ 1 1 [.string s, .int .i64 y] rfl rfl HRow.out.2.1 HOne.out (by unfold maxLen; omega) (by omega) HRow.out.2.2 ?_; intro v5 w9 ho5 hb5 hg5 hv5; obtain ⟨A5, c5, rfl⟩ := own_form ho5; have hQ5 := (HB1.out.below HB5.out hsl).below hb5 HSb.out; have q50 := hQ5.two.2; have q5f := hQ5.free 1; have H9 := Lib.hid (And.intro ho5 (And.intro hb5 hQ5)); clear ho5 hb5 hg5 hv5 hQ5)
                have X : ∃ (k' : Nat) (RA' : Option Addr) (rc' : Nat), (Value.int .i64 ((k : Int) + 1)) = .int .i64 k' ∧ k' ≤ M ∧ Hid ((w9.setCell ⟨sb, 1, none⟩ (.slice A5 (k + 1) c5)).ownsRow V1.heap.size 61 2 (.slice RA' k' rc') k' (((rs.take k').map fun r => (⟨r.s, newO od r.t⟩ : Rv)).flatMap Rv.cs)) ∧ Bk (w9.setCell ⟨sb, 1, none⟩ (.slice A5 (k + 1) c5)) sb 32 #[.slice VA N0 vc, .slice RA' k' rc'] ∧ Hid (Kept (fun b => b = sb) V1 (w9.setCell ⟨sb, 1, none⟩ (.slice A5 (k + 1) c5))) := by
                  obtain ⟨h1, h2, h3⟩ := H9.out
                  refine ⟨k + 1, A5, c5, by go_num, by omega, Lib.hid ?_, h3.set 1 _, Lib.hid (((hK.out.trans (Kept.of_below HB5.out _)).bel h2).trans (Kept.set w9 sb 1 _))⟩
                  rw [HTk.out]
                  refine World.ownsRow.kept h1 (grown_set w9 ⟨sb, 1, none⟩ _) ?_
                  cases e : (Value.slice A5 (k + 1) c5).ownBlock with
                  | none => exact .inl rfl
                  | some c => exact .inr (fun e2 => by injection e2 with e2; have e3 : c = sb := e2; have := (World.ownsRow.lt h1 c e).1; have := HSb.out; omega)
                clear q50 q5f H9
                go_wp2_with fail
                go_roundw
                case rel => first | exact X | exact ⟨_, _, _, _, _, _, _, _, _, _, _, _, _, _, _, _, _, _, _, _, _, _, _, X, rfl⟩
                case measure => simp [Go.RowKit.intOf]; omega
            · have hkM : k = M := by omega
              have hr9 := hro.out
              rw [hkM, List.take_of_length_le (by rw [← HN.out.2.2]; exact Nat.le_refl _)] at hr9
              rw [hkM] at hb1
              have d0 := HPS.out.rb.two.1
              have d1 := HPS.out.rb.two.2
              have d2 := HPS.out.rb.free 0
              have d3 := HPS.out.rb.free 1
              have e0 := hb1.two.1
              have e1 := hb1.two.2
              have HR9 := Lib.hid (And.intro hr9 hb1)
              clear hr9 hb1 hro hkM
              go_wp2_with fail
              have o1 := HPS.out.rb
              have hbz : Bk ((wr.setCell ⟨w.heap.size + 1, 0, none⟩ (.slice VA N0 vc)).setCell ⟨w.heap.size + 1, 1, none⟩ (.slice RA M rc)) (w.heap.size + 1) 32 #[.slice VA N0 vc, .slice RA M rc] := by
                have h := (o1.set 0 (.slice VA N0 vc)).set 1 (.slice RA M rc)
                simpa using h
              refine bodyPost_ret (v := .tuple #[.agg #[.slice VA N0 vc, .slice RA M rc], .slice (some ⟨q, 0, none⟩) N N]) (pick_res hbz rfl rfl) rfl ?_
              have hKf : Kept (fun b => b = w.heap.size + 1) wr ((wr.setCell ⟨w.heap.size + 1, 0, none⟩ (.slice VA N0 vc)).setCell ⟨w.heap.size + 1, 1, none⟩ (.slice RA M rc)) := (Kept.set wr _ 0 _).trans (Kept.set _ _ 1 _)
              have hbf : Below w.heap.size w ((wr.setCell ⟨w.heap.size + 1, 0, none⟩ (.slice VA N0 vc)).setCell ⟨w.heap.size + 1, 1, none⟩ (.slice RA M rc)) := HPS.out.bl.trans (hKf.below HPS.out.bl.size (fun c e => by rw [e]; omega))
              obtain ⟨n1, n2, n3, n4, n5, n6⟩ := HF1.out
              have h4 := H4.out.1.lt
              have h5 := H4.out.2.2
              have r1 := row_kept hKf (row_kept hK.out n1.row (fun c e => by rw [e]; exact h4)) (fun c e => by rw [e]; omega)
              have r2 : ((wr.setCell ⟨w.heap.size + 1, 0, none⟩ (.slice VA N0 vc)).setCell ⟨w.heap.size + 1, 1, none⟩ (.slice RA M rc)).ownsRow V1.heap.size 61 2 (.slice RA M rc) (rs.map fun r => (⟨r.s, newO od r.t⟩ : Rv)).length ((rs.map fun r => (⟨r.s, newO od r.t⟩ : Rv)).flatMap Rv.cs) := by
                rw [List.length_map, ← HN.out.2.2]
                exact row_kept hKf HR9.out.1 (fun c e => by rw [e]; omega)
              have r1' : ((wr.setCell ⟨w.heap.size + 1, 0, none⟩ (.slice VA N0 vc)).setCell ⟨w.heap.size + 1, 1, none⟩ (.slice RA M rc)).ownsRow w.heap.size 60 2 (.slice VA xs.length vc) xs.length (xs.flatMap Nv.cs) := by
                rw [n4]; rw [n4] at r1; exact own_le r1 (by omega)
              have r2' : ((wr.setCell ⟨w.heap.size + 1, 0, none⟩ (.slice VA N0 vc)).setCell ⟨w.heap.size + 1, 1, none⟩ (.slice RA M rc)).ownsRow w.heap.size 61 2 (.slice RA (rs.map fun r => (⟨r.s, newO od r.t⟩ : Rv)).length rc) (rs.map fun r => (⟨r.s, newO od r.t⟩ : Rv)).length ((rs.map fun r => (⟨r.s, newO od r.t⟩ : Rv)).flatMap Rv.cs) := by
                rw [List.length_map, ← HN.out.2.2]
                rw [List.length_map, ← HN.out.2.2] at r2
                exact own_le r2 (by omega)
              have hGO : GO2 ((wr.setCell ⟨w.heap.size + 1, 0, none⟩ (.slice VA N0 vc)).setCell ⟨w.heap.size + 1, 1, none⟩ (.slice RA M rc)) w.heap.size (Gv.mk VA vc RA rc xs (rs.map fun r => (⟨r.s, newO od r.t⟩ : Rv))) := by
                refine ⟨⟨r1', fun x hx => ?_⟩, r2'⟩
                obtain ⟨x1, x2⟩ := n1.each x hx
                refine ⟨?_, ?_⟩
                · exact (hKf.ow (hK.out.ow x1 (ow_ne_bk x1 n6 (by decide))) (fun c e e2 => by have := (x1.lt c e).1; omega)).mono (by omega)
                · exact (hKf.ow (hK.out.ow x2 (ow_ne_bk x2 n6 (by decide))) (fun c e e2 => by have := (x2.lt c e).1; omega)).mono (by omega)
              refine ⟨_, q, ?_, hGO, ?_, n2, rfl, hbf⟩
              · show Ending.returned _ = Ending.returned (Value.tuple #[.agg #[.slice VA xs.length vc, .slice RA (rs.map fun r => (⟨r.s, newO od r.t⟩ : Rv)).length rc], _])
                rw [List.length_map, ← HN.out.2.2, n4]
              · have h7 := HPS.out.to.ge.1
                exact (hKf.ow HPS.out.to (fun c e e2 => by injection e with e; have e3 : q = c := e; omega)).mono (by omega)
end Go.Proofs.Ytidaimcndbhefaa
/- What a graph that is checked has; a list of numbers as bools. No conditions. -/
namespace Go.Proofs.Ytidaimcndbhefaa
set_option linter.unusedVariables false
set_option linter.unusedSimpArgs false
open Go.RowKit Go.Maps
theorem ckNodes_ok {N : Nat} : ∀ {l : List Nv}, ckNodes N l = 0 → ∀ x ∈ l, ∀ p ∈ x.ps, okP N p = true
  | [], _, x, hx => by cases hx
  | y :: r, h, x, hx => by
    have h1 : ckNode N y = 0 := by
      unfold ckNodes at h
      by_cases c : ckNode N y = 0
      · exact c
      · rw [if_neg c] at h; exact h
    have h2 : ckNodes N r = 0 := by
      unfold ckNodes at h
      rw [if_pos h1] at h; exact h
    rcases List.mem_cons.1 hx with rfl | hx
    · intro p hp
      unfold ckNode at h1
      by_cases c : x.ps.all (okP N) = true
      · rw [List.all_eq_true] at c; exact c p hp
      · rw [if_neg c] at h1; cases h1
    · exact ckNodes_ok h2 x hx
theorem ckRoots_ok {N : Nat} : ∀ {l : List Rv} {s : ByteArray}, ckRoots N s l = 0 → ∀ r ∈ l, okP N r.t = true
  | [], _, _, r, hr => by cases hr
  | y :: l, s, h, r, hr => by
    unfold ckRoots at h
    split at h
    · by_cases c : okP N y.t = true
      · rw [if_pos c] at h
        rcases List.mem_cons.1 hr with rfl | hr
        · exact c
        · exact ckRoots_ok h r hr
      · rw [if_neg c] at h; cases h
    · cases h
theorem ck_ok {g : Gv} (h : ckG g = 0) : (∀ x ∈ g.n, ∀ p ∈ x.ps, okP g.n.length p = true) ∧ ∀ r ∈ g.r, okP g.n.length r.t = true := by
  unfold ckG at h
  by_cases c : ckNodes g.n.length g.n = 0
  · rw [if_pos c] at h
    by_cases d : 64 < g.r.length
    · rw [if_pos d] at h; cases h
    · rw [if_neg d] at h
      exact ⟨ckNodes_ok c, ckRoots_ok h⟩
  · rw [if_neg c] at h; exact absurd h c
/-- Which numbers a list has. -/
def inL (N : Nat) (out : List Int) : List Bool := (List.range N).map fun (i : Nat) => decide (((i : Int) + 1) ∈ out)
theorem inL_len (N : Nat) (out : List Int) : (inL N out).length = N := by simp [inL]
theorem inL_seen {N : Nat} {out : List Int} {p : Int} (hp : hasG N p = true) : seenG (inL N out) p = true ↔ p ∈ out := by
  have h := hasG_iff.1 hp
  unfold seenG inL
  rw [List.getD_eq_getElem?_getD, List.getElem?_map, List.getElem?_range (by omega)]
  have e : (((p - 1).toNat : Nat) : Int) + 1 = p := by omega
  rw [Option.map_some, Option.getD_some, e, decide_eq_true_iff]
/-- Bools that say the same of each number are those. -/
theorem seen_in {N : Nat} {L : List Bool} {out : List Int} (hl : L.length = N) (h : ∀ p, hasG N p = true → (seenG L p = true ↔ p ∈ out)) : L = inL N out := by
  refine List.ext_getElem (by rw [inL_len, hl]) fun i h1 h2 => ?_
  have hp : hasG N ((i : Int) + 1) = true := hasG_iff.2 (by omega)
  have h3 := h _ hp
  have h4 : seenG L ((i : Int) + 1) = L[i] := by
    unfold seenG
    rw [show ((i : Int) + 1 - 1).toNat = i by omega, List.getD_eq_getElem?_getD, List.getElem?_eq_getElem h1]; rfl
  rw [h4] at h3
  have h5 : (inL N out)[i] = decide (((i : Int) + 1) ∈ out) := by simp [inL]
  rw [h5, Bool.eq_iff_iff, h3, decide_eq_true_iff]
end Go.Proofs.Ytidaimcndbhefaa
/- The reference's Trim. Conditions: lengths; pointers and roots are some node's or 0. -/
namespace Go.Proofs.Ytidaimcndbhefaa
set_option linter.unusedVariables false
set_option linter.unusedSimpArgs false
open Go.RowKit Go.Maps
/-- What a row of marks holds. -/
def marks (M : Nat) (l : List Int) : List Bool := (List.range M).map fun (i : Nat) => decide ((i : Int) ∈ l)
theorem marks_len (M : Nat) (l : List Int) : (marks M l).length = M := by simp [marks]
theorem marks_nil (M : Nat) : marks M [] = List.replicate M false := by
  refine List.ext_getElem (by simp [marks]) fun i h1 h2 => ?_
  simp [marks]
theorem marks_set {M : Nat} {l : List Int} (n : Nat) : (marks M l).set n true = marks M (l ++ [(n : Int)]) := by
  refine List.ext_getElem (by simp [marks]) fun i h1 h2 => ?_
  rw [List.getElem_set]
  have e2 : (marks M (l ++ [(n : Int)]))[i] = decide ((i : Int) ∈ l ++ [(n : Int)]) := by simp [marks]
  rw [e2]
  by_cases e : n = i
  · subst e
    rw [if_pos rfl]; simp
  · rw [if_neg e]
    simp [marks]
    intro e3
    omega
theorem marks_get {M : Nat} {l : List Int} {n : Nat} (h : n < (marks M l).length) : (marks M l)[n] = decide ((n : Int) ∈ l) := by simp [marks]
theorem inL_snoc (k N : Nat) (l : List Int) (h : k < N) : (inL N l).take (k + 1) = (inL N l).take k ++ [decide (((k : Int) + 1) ∈ l)] := by
  rw [List.take_succ_eq_append_getElem (by rw [inL_len]; exact h)]
  simp [inL]
theorem ordB_len : ∀ (L : List Bool) (i : Nat), (ordB L i).length ≤ L.length
  | [], _ => Nat.le_refl _
  | b :: r, i => by
    have h := ordB_len r (i + 1)
    unfold ordB
    split
    · simp only [List.length_cons]; omega
    · simp only [List.length_cons]; omega
/-- What Trim works on. -/
structure TW (w W : World) (q N1 : Nat) (vn vr : Value) (seen : List Bool) (out : List Int) (v : Value) : Prop where
  gb : Bk W w.heap.size 32 #[vn, vr]
  rb : Bk W (w.heap.size + 1) 32 #[.slice none 0 0, .slice none 0 0]
  sn : Ow tV 4 W (w.heap.size + 2) (.slice (some ⟨q, 0, none⟩) N1 N1) seen
  wk : Ow iV 3 W (w.heap.size + 2) v out
  bl : Below w.heap.size w W
section
variable {w W W' : World} {q N1 : Nat} {vn vr v v' : Value} {seen : List Bool} {out : List Int}
theorem TW.below (h : TW w W q N1 vn vr seen out v) (hb : Below W.heap.size W W') : TW w W' q N1 vn vr seen out v := ⟨h.gb.below hb h.gb.lt, h.rb.below hb h.rb.lt, h.sn.below hb, h.wk.below hb, h.bl.trans (hb.mono h.bl.size)⟩
theorem TW.mark (h : TW w W q N1 vn vr seen out v) {n : Nat} (hn : n < seen.length) : TW w (W.setCell ⟨q, n, none⟩ (.bool true)) q N1 vn vr (seen.set n true) out v := by
  have hq := h.sn.ge.1
  refine ⟨h.gb.far (p := ⟨q, n, none⟩) (show w.heap.size ≠ q by omega) _, h.rb.far (p := ⟨q, n, none⟩) (show w.heap.size + 1 ≠ q by omega) _, h.sn.set hn true, h.wk.kept (grown_set W ⟨q, n, none⟩ _) ?_, h.bl.setCell (p := ⟨q, n, none⟩) (show w.heap.size ≤ q by omega) _⟩
  exact .inr (own_ne h.sn h.wk)
theorem TW.app (h : TW w W q N1 vn vr seen out v) {x : Int} (ho : Ow iV 3 W' (w.heap.size + 2) v' (out ++ [x])) (hb : Below (w.heap.size + 2) W W') (hg : W.grownBy W' v.ownBlock) : TW w W' q N1 vn vr seen (out ++ [x]) v' := by
  refine ⟨h.gb.below hb (by omega), h.rb.below hb (by omega), h.sn.kept hg (.inr (fun e => own_ne h.sn h.wk e.symm)), ho, h.bl.trans (hb.mono (by omega))⟩
theorem TW.nil (h : TW w W q N1 vn vr seen out v) : TW w W q N1 vn vr seen [] (.slice none 0 0) := ⟨h.gb, h.rb, h.sn, Ow.nil_ _ _ _ _, h.bl⟩
end
theorem rtrim_res {tmps : Array Value} {W : World} {g : Nat} {a b y : Value} (hb : Bk W g 32 #[a, b]) (h2 : tmps.getD 4 undef = .pointer (some ⟨g, 0, none⟩)) (h3 : tmps.getD 5 undef = y) :
    (results Try.f16 tmps).run Try.prog W = .ok (.tuple #[.agg #[a, b], y]) W := by
  have hl := run_loadVar_row (P := Try.prog) W g 32 32 #[a, b] (0, 0) _ hb Try.underlying32 rfl (by kernel_rfl)
  have h2' : tmps[4]?.getD undef = .pointer (some ⟨g, 0, none⟩) := by simpa using h2
  have h3' : tmps[5]?.getD undef = y := by simpa using h3
  simp [results, Try.results16, h2', h3', asAddr, hl]
set_option maxHeartbeats 4000000
set_option maxRecDepth 100000
theorem rtrim_c (w : World) (g : Gv) (hg : g.At w w.heap.size) (hs : FewP g) (hok : ∀ x ∈ g.n, ∀ p ∈ x.ps, okP g.n.length p = true) (hrt : ∀ r ∈ g.r, okP g.n.length r.t = true) (A : Option Addr) (c : Nat) (keep : List Int) (hr : Rd iV w w.heap.size A keep) (hl : keep.length ≤ 100) :
    Calls Try.prog 16 #[g.v, .slice A keep.length c] w fun e w' => ∃ (g' : Gv) (q : Nat) (L : List Bool), e = .returned (.tuple #[g'.v, .slice (some ⟨q, 0, none⟩) g.n.length g.n.length]) ∧ GO2 w' w.heap.size g' ∧ Ow iV 3 w' w.heap.size (.slice (some ⟨q, 0, none⟩) g.n.length g.n.length) (toB L 0) ∧ g'.n.map Nv.m = trimN (pairsB L 0 0) g.n L ∧ g'.r = g.r.map (fun r => ⟨r.s, newP (pairsB L 0 0) r.t⟩) ∧ L.length = g.n.length ∧ (∀ p, hasG g.n.length p = true → (seenG L p = true ↔ Rch g.n (g.r.map (·.t) ++ keep) p)) ∧ Below w.heap.size w w' := by
  have HG := Lib.hid hg
  have HF := Lib.hid hs
  have HNm := Lib.hid (fun W (hb : Below w.heap.size w W) => rnamed_c W g (hg.up hb) hs.small)
  have HWk := Lib.hid (fun W (hb : Below w.heap.size w W) A c fr (hr : Rd iV W W.heap.size A fr) hl => walk_c W g (hg.up hb) hs hok A c fr hr hl)
  have HPk := Lib.hid (fun W (hb : Below w.heap.size w W) A c od (hr : Rd iV W W.heap.size A od) hod hnd hl => pick_c W g (hg.up hb) hs hok hrt A c od hr hod hnd hl)
  have hsn := hs.1
  have hsr := hs.2.1
  have HR := Lib.hid hr
  obtain ⟨GA, ca, A2, ca2, ns, rs⟩ := g
  obtain ⟨N, hN⟩ : ∃ N, N = ns.length := ⟨_, rfl⟩
  obtain ⟨M, hM⟩ : ∃ M, M = rs.length := ⟨_, rfl⟩
  obtain ⟨K, hK⟩ : ∃ K, K = keep.length := ⟨_, rfl⟩
  obtain ⟨N1, hN1⟩ : ∃ N1, N1 = N + 1 := ⟨_, rfl⟩
  have q0 : (N : Int) ≤ 60 := by rw [hN]; exact Int.ofNat_le.2 hsn
  have q1 : (M : Int) ≤ 80 := by rw [hM]; exact Int.ofNat_le.2 hsr
  have q2 : (N : Int) + 1 = (N1 : Int) := by omega
  have q3 : (K : Int) ≤ 100 := by omega
  have HN := Lib.hid (And.intro hN (And.intro hM (And.intro hK hN1)))
  unfold Gv.v Gv.vn Gv.vr at HNm HWk HPk ⊢
  simp only at HNm HWk HPk ⊢
  rw [← hN, ← hM] at HNm HWk HPk
  rw [← hN, ← hM, ← hK]
  clear hg hs hok hrt hsn hsr hr hl hN hM hK hN1
  go_enter Try.func16, Try.ntmps16
  go_wp2_with fail
  obtain ⟨W0, hW0⟩ : ∃ W0, W0 = (w.alloc (.cells #[.slice GA N ca, .slice A2 M ca2] 32)).alloc (.cells #[.slice none 0 0, .slice none 0 0] 32) := ⟨_, rfl⟩
  have H0 := Lib.hid (show Bk W0 w.heap.size 32 #[.slice GA N ca, .slice A2 M ca2] ∧ Bk W0 (w.heap.size + 1) 32 #[.slice none 0 0, .slice none 0 0] ∧ Below w.heap.size w W0 from by
    rw [hW0]
    have k1 := Bk.new (w.alloc (.cells #[.slice GA N ca, .slice A2 M ca2] 32)) 32 #[.slice none 0 0, .slice none 0 0]
    simp only [World.size_alloc] at k1
    exact ⟨(Bk.new w _ _).alloc _, k1, (Gw.alloc w _).trans ((Gw.alloc _ _).mono (by simp))⟩)
  rw [← hW0]
  clear hW0
  have HCl := Lib.hid (fun (W : World) (hb : Below W0.heap.size W0 W) => show W.cell? ⟨w.heap.size, 0, none⟩ = some (.slice GA N ca) ∧ W.cell? ⟨w.heap.size, 1, none⟩ = some (.slice A2 M ca2) from ⟨(H0.out.1.below hb H0.out.1.lt).cell 0, (H0.out.1.below hb H0.out.1.lt).cell 1⟩)
  have HBw := Lib.hid (fun (W : World) (hb : Below W0.heap.size W0 W) => show Below w.heap.size w W from H0.out.2.2.trans (hb.mono H0.out.2.2.size))
  have hw0 := HCl.out _ (Gw.drew W0)
  refine region_by_spine [2, 4, 5, 6] [(0, 11, .agg #[.slice GA N ca, .slice A2 M ca2]), (1, 12, .agg #[.slice GA N ca, .slice A2 M ca2]), (3, 14, .slice A K c)]
    (fun W => W.cell? ⟨w.heap.size, 0, none⟩ = some (.slice GA N ca) ∧ W.cell? ⟨w.heap.size, 1, none⟩ = some (.slice A2 M ca2)) (by kernel_rfl) (by kernel_rfl) (by kernel_rfl) (by kernel_rfl) (by kernel_rfl) hw0 ?_ ?_
  · intro y hy V ρ hV hρ hcst
    obtain ⟨k1, k2⟩ := hV
    have e1 : ρ (.tmp 1) = .slice A K c := (hρ 1).trans (by kernel_rfl)
    have e2 : ρ (.tmp 2) = .pointer (some ⟨w.heap.size, 0, none⟩) := (hρ 2).trans (by kernel_rfl)
    clear hρ
    simp only [List.mem_cons, List.not_mem_nil, or_false] at hy
    rcases hy with rfl | rfl | rfl
    all_goals
      refine ⟨_, rfl, ?_⟩
      go_simp
      try rfl
  simp only [putA, putD, Act.put, List.setIfInBounds_toArray, List.set_cons_zero, List.set_cons_succ]
  refine spine_list rfl rfl rfl ?_
  go_wp2_with fail
  refine Calls.mono (HNm.out _ (HBw.out _ (Gw.drew W0))) ?_
  rintro r1 V1 ⟨v1, rfl, ho1, b1⟩
  have hb01 : Below W0.heap.size W0 V1 := (Gw.drew W0).trans (b1.mono (Gw.drew W0).size)
  have HB1 := Lib.hid hb01
  have HO1 := Lib.hid ho1
  have HW1 := Lib.hid (HCl.out V1 hb01)
  clear ho1 b1 hb01 hw0
  go_wp2_with fail
  refine ⟨rfl, HW1.out, ?_⟩
  refine spine_list rfl rfl rfl ?_
  have hd : W0.drew.heap.size = W0.heap.size := rfl
  have HL := Lib.hid (show (rs.map (·.t)).length + keep.length ≤ 4294967296 ∧ (rs.map (·.t) ++ keep).length ≤ 1000 from by
    obtain ⟨h1, h2, h3, h4⟩ := HN.out
    rw [List.length_append, List.length_map]
    omega)
  refine wp_app oneI iV_one rfl (.tmp 13) (.tmp 14) rfl W0.heap.size _ (rs.map (·.t)) rfl (HO1.out.mono (by rw [hd]; omega)) A K c keep rfl HN.out.2.2.1 w.heap.size (HR.out.below (HBw.out _ HB1.out)) HL.out.1 (by decide) HB1.out.size ?_
  intro v2 V2 ho2 hb2 hg2 _
  have hb02 : Below W0.heap.size W0 V2 := HB1.out.trans hb2
  have HB2 := Lib.hid hb02
  have HO2 := Lib.hid ho2
  have HW2 := Lib.hid (HCl.out V2 hb02)
  obtain ⟨RA, rc, rfl, _⟩ := ho2.form
  obtain ⟨F1, hF1⟩ : ∃ F1, F1 = (rs.map (·.t) ++ keep).length := ⟨_, rfl⟩
  rw [← hF1]
  have HF1 := Lib.hid hF1
  clear ho2 hb2 hg2 hb02 hd hF1
  refine ⟨rfl, HW2.out, ?_⟩
  refine spine_list rfl rfl rfl ?_
  go_wp2_with fail
  refine Calls.mono (by have k := HWk.out V2 (HBw.out _ HB2.out) RA rc (rs.map (·.t) ++ keep) HO2.out.rd HL.out.2; rw [← HF1.out] at k; exact k) ?_
  rintro r3 V3 ⟨v3, seen, out, rfl, ho3, hwk, hiff, b3⟩
  have hb03 : Below W0.heap.size W0 V3 := HB2.out.trans (b3.mono HB2.out.size)
  have HB3 := Lib.hid hb03
  have HO3 := Lib.hid (And.intro ho3 (And.intro hwk hiff))
  have HW3 := Lib.hid (HCl.out V3 hb03)
  have hV3 := HB2.out.size
  obtain ⟨OA, oc, rfl, _⟩ := ho3.form
  obtain ⟨F, hF⟩ : ∃ F, F = out.length := ⟨_, rfl⟩
  rw [← hF]
  have HFl := Lib.hid hF
  have qF : (F : Int) ≤ 61 := by have h1 := hwk.le; have h2 := HN.out.1; (try simp only at h1); omega
  clear ho3 hwk hiff b3 hb03 hF
  go_wp2_with fail
  refine ⟨rfl, HW3.out, ?_⟩
  refine spine_list rfl rfl rfl ?_
  go_wp2_with fail
  refine ⟨rfl, HW3.out, ?_⟩
  unfold SpineW
  have g0 := HW3.out.1
  go_wp2_with (at_make; refine wp_make (f := tV) oneT rfl _ _ rfl false rfl V3.heap.size N1 _ _ _ _ rfl rfl rfl rfl (by omega) (by decide) (Nat.le_refl _) ?_; rintro q w4 hq ho4 hb4 _; have H4 := Lib.hid (And.intro ho4 hb4); have HQ := Lib.hid hq; clear ho4 hb4 hq)
  clear g0
  have HS0 := Lib.hid (show TW w w4 q N1 (.slice GA N ca) (.slice A2 M ca2) (marks N1 []) out (.slice OA F oc) from by
    obtain ⟨o1, o2⟩ := H4.out
    have b1 : Below W0.heap.size W0 w4 := HB3.out.trans (o2.mono HB3.out.size)
    have hz := H0.out.2.1.lt
    have hz2 := HB1.out.size
    have hz3 := HB2.out.size
    have hz4 := HB3.out.size
    refine ⟨H0.out.1.below b1 H0.out.1.lt, H0.out.2.1.below b1 H0.out.2.1.lt, ?_, ?_, HBw.out _ b1⟩
    · rw [marks_nil]; exact o1.mono (by omega)
    · have := HO3.out.1
      rw [← HFl.out] at this
      exact (this.below o2).mono (by omega))
  clear H4
  go_loopw [8] (fun i W => ∃ k : Nat, i = .int .i64 k ∧ k ≤ F ∧ Hid (TW w W q N1 (.slice GA N ca) (.slice A2 M ca2) (marks N1 (out.take k)) out (.slice OA F oc))) (fun i _ => F - (Go.RowKit.intOf i).toNat)
  case atStart => exact ⟨0, rfl, Nat.zero_le _, Lib.hid HS0.out⟩
  case round =>
    obtain ⟨k, rfl, hk, hS⟩ := hrel
    by_cases hlt : k < F
    · have hko : k < out.length := by rw [← HFl.out]; exact hlt
      obtain ⟨p, hp⟩ : ∃ p, p = out[k] := ⟨_, rfl⟩
      have hpg := hasG_iff.1 (HO3.out.2.1.ok p (by rw [hp]; exact List.getElem_mem _)).has
      obtain ⟨n, rfl, hnN⟩ : ∃ n : Nat, p = (n : Int) ∧ n ≤ N := ⟨p.toNat, by omega, by have := HN.out.1; (try simp only at hpg); omega⟩
      have hwk := hS.out.wk
      rw [HFl.out] at hwk
      obtain ⟨a, rfl, ha, hca⟩ := hwk.rd k hko
      rw [← hp] at hca
      unfold iV at hca
      have hn1 : n < N1 := by omega
      have hnl : n < (marks N1 (out.take k)).length := by rw [marks_len]; exact hn1
      have hst := hS.out.mark hnl
      rw [marks_set, hp, ← take_snoc out k hko] at hst
      have HSt := Lib.hid hst
      have hcn := hS.out.sn.cell hnl
      have hfn := hS.out.sn.free n
      obtain ⟨u, hu⟩ : ∃ u, u = (marks N1 (out.take k))[n] := ⟨_, rfl⟩
      rw [← hu] at hcn
      unfold tV at hcn
      have p0 : (0 : Int) ≤ (n : Int) := by omega
      have p1 : (0 : Int) ≤ (k : Int) := by omega
      have p2 : (k : Int) < (F : Int) := by omega
      have p3 : (n : Int) < (N1 : Int) := by omega
      clear hp hpg hwk ha hst hu hko hnl hn1 hnN
      go_wp2_with fail
      clear hca hcn hfn
      go_roundw
      case rel => first | exact ⟨k + 1, by go_num, by omega, HSt⟩ | exact ⟨_, ⟨k + 1, by go_num, by omega, HSt⟩, rfl⟩
      case measure => simp [Go.RowKit.intOf]; omega
    · have hkF : k = F := by omega
      have hS2 := hS.out
      rw [hkF, List.take_of_length_le (by rw [← HFl.out]; exact Nat.le_refl _)] at hS2
      have HS2 := Lib.hid hS2.nil
      clear hS2 hS hkF
      obtain ⟨W5, hW5⟩ : ∃ W5, W5 = wr := ⟨_, rfl⟩
      rw [← hW5] at HS2 ⊢
      clear hW5
      go_wp2_with fail
      clear hlt hk
      go_loopw [9, 10] (fun o i W => ∃ j : Nat, i = .int .i64 j ∧ 1 ≤ j ∧ j ≤ N1 ∧ Hid (TW w W q N1 (.slice GA N ca) (.slice A2 M ca2) (marks N1 out) (ordB ((inL N out).take (j - 1)) 0) o)) (fun _ i _ => N1 - (Go.RowKit.intOf i).toNat)
      case atStart => exact ⟨1, rfl, Nat.le_refl _, by omega, Lib.hid HS2.out⟩
      case round =>
        obtain ⟨j, rfl, hj1, hj2, hS⟩ := hrel
        have d0 := hS.out.gb.two.1
        by_cases hlt : j ≤ N
        · have hnl : j < (marks N1 out).length := by rw [marks_len]; omega
          have hcn := hS.out.sn.cell hnl
          rw [marks_get hnl] at hcn
          unfold tV at hcn
          have HT := Lib.hid (show (inL N out).take j = (inL N out).take (j - 1) ++ [decide ((j : Int) ∈ out)] from by
            have h := inL_snoc (j - 1) N out (by omega)
            rw [show j - 1 + 1 = j by omega, show ((j - 1 : Nat) : Int) + 1 = (j : Int) by omega] at h
            exact h)
          have p1 : (0 : Int) ≤ (j : Int) := by omega
          have p2 : (j : Int) ≤ (N : Int) := by omega
          have p3 : (j : Int) < (N1 : Int) := by omega
          obtain ⟨y, hy⟩ : ∃ y, y = decide ((j : Int) ∈ out) := ⟨_, rfl⟩
          rw [← hy] at hcn
          have HY := Lib.hid hy
          have HLn := Lib.hid (show ((inL N out).take (j - 1)).length = j - 1 from by rw [List.length_take, inL_len]; omega)
          clear hnl hy
          cases y with
          | false =>
            have HX := Lib.hid (show TW w wr q N1 (.slice GA N ca) (.slice A2 M ca2) (marks N1 out) (ordB ((inL N out).take (j + 1 - 1)) 0) u9 from by
              rw [show j + 1 - 1 = j by omega, HT.out, ← HY.out, ordB_snoc, if_neg (by simp), List.append_nil]
              exact hS.out)
            go_wp2_with fail
            clear hcn d0
            go_roundw
            case rel => exact ⟨j + 1, by go_num, by omega, by omega, HX⟩
            case measure => simp [Go.RowKit.intOf]; omega
          | true =>
            obtain ⟨VA, m, vc, rfl⟩ : ∃ A m n, u9 = Value.slice A m n := by
              obtain ⟨A, c, e, _⟩ := hS.out.wk.form
              exact ⟨A, _, c, e⟩
            have hml : (ordB ((inL N out).take (j - 1)) 0).length + 1 ≤ 4294967296 := by
              have h1 := ordB_len ((inL N out).take (j - 1)) 0
              rw [HLn.out] at h1
              omega
            have HRd := Lib.hid (show Rd iV (wr.alloc (.cells #[.int .i64 j] 3)) (wr.heap.size + 1) (some ⟨wr.heap.size, 0, none⟩) [(j : Int)] from rd1_new (f := iV) (w := wr) (E := 3) (y := (j : Int)) (u := .int .i64 j) rfl)
            have hsz5 : w.heap.size + 2 ≤ (wr.alloc (.cells #[.int .i64 j] 3)).heap.size := Nat.le_trans (by have := hS.out.rb.lt; omega) (Gw.alloc wr _).size
            have HSz := Lib.hid hsz5
            have HX := Lib.hid (show ∀ (W : World) (v : Value), TW w W q N1 (.slice GA N ca) (.slice A2 M ca2) (marks N1 out) (ordB ((inL N out).take (j - 1)) 0 ++ [(j : Int)]) v → TW w W q N1 (.slice GA N ca) (.slice A2 M ca2) (marks N1 out) (ordB ((inL N out).take (j + 1 - 1)) 0) v from fun W v h => by
              rw [show j + 1 - 1 = j by omega, HT.out, ← HY.out, ordB_snoc, if_pos rfl, HLn.out]
              have e : ((0 + (j - 1) : Nat) : Int) + 1 = (j : Int) := by omega
              rw [e]; exact h)
            clear hsz5
            go_wp2_with (at_builtin; refine wp_app oneI iV_one rfl (.tmp 45) (.tmp 47) rfl (w.heap.size + 2) _ (ordB ((inL N out).take (j - 1)) 0) rfl (hS.out.wk.alloc _) (some ⟨wr.heap.size, 0, none⟩) 1 1 [(j : Int)] rfl rfl (wr.heap.size + 1) HRd.out hml (by decide) HSz.out ?_; intro v5 w5 ho5 hb5 hg5 _; have HS6 := Lib.hid (HX.out _ _ ((hS.out.below (Gw.alloc _ _)).app ho5 hb5 hg5)); clear ho5 hb5 hg5)
            clear hcn d0
            go_roundw
            case rel => exact ⟨j + 1, by go_num, by omega, by omega, HS6⟩
            case measure => simp [Go.RowKit.intOf]; omega
        · have hjN : j - 1 = N := by omega
          have hS2 := hS.out
          rw [hjN, List.take_of_length_le (by rw [inL_len]; exact Nat.le_refl _)] at hS2
          have HS2' := Lib.hid hS2
          obtain ⟨VA, m, vc, rfl, hm⟩ : ∃ A m n, u9 = Value.slice A m n ∧ m = (ordB (inL N out) 0).length := by
            obtain ⟨A, c, e, _⟩ := hS2.wk.form
            exact ⟨A, _, c, e, rfl⟩
          have p2 : ¬ (j : Int) ≤ (N : Int) := by omega
          have d1 := hS2.gb.two.2
          have HPk2 := Lib.hid (by
            have hr := hS2.wk
            rw [hm] at hr
            have k := HPk.out wr hS2.bl VA vc (ordB (inL N out) 0) hr.rd (fun p hp => by
              have h := ordB_ge (inL N out) 0 p hp
              rw [inL_len] at h
              refine hasG_iff.2 ?_
              have := HN.out.1
              (try simp only)
              omega) (ordB_nodup _ _) (by have h1 := ordB_len (inL N out) 0; rw [inL_len] at h1; omega)
            rw [← hm] at k
            exact k)
          have hwz := hS2.rb.lt
          clear hS hS2 hm hjN hlt
          go_wp2_with fail
          refine Calls.mono HPk2.out ?_
          rintro r6 W6 ⟨g', q2, rfl, hgo, hto, hm', hr', hb6⟩
          have HB6 := Lib.hid (HS2'.out.below hb6)
          have H6 := Lib.hid (And.intro hgo (And.intro hto (And.intro hm' (And.intro hr' hwz))))
          obtain ⟨A5, hA5⟩ : ∃ v, v = g'.A := ⟨_, rfl⟩
          obtain ⟨n5, hn5⟩ : ∃ v, v = g'.n.length := ⟨_, rfl⟩
          obtain ⟨c5, hc5⟩ : ∃ v, v = g'.c := ⟨_, rfl⟩
          obtain ⟨A6, hA6⟩ : ∃ v, v = g'.A2 := ⟨_, rfl⟩
          obtain ⟨n6, hn6⟩ : ∃ v, v = g'.r.length := ⟨_, rfl⟩
          obtain ⟨c6, hc6⟩ : ∃ v, v = g'.c2 := ⟨_, rfl⟩
          rw [← hA5, ← hn5, ← hc5, ← hA6, ← hn6, ← hc6]
          have HGv := Lib.hid (show g'.vn = .slice A5 n5 c5 ∧ g'.vr = .slice A6 n6 c6 from by rw [hA5, hn5, hc5, hA6, hn6, hc6]; exact ⟨rfl, rfl⟩)
          have d2 := HB6.out.rb.two.1
          have d3 := HB6.out.rb.two.2
          have d4 := HB6.out.rb.free 0
          have d5 := HB6.out.rb.free 1
          clear hgo hto hm' hr' hb6 hA5 hn5 hc5 hA6 hn6 hc6 d0 d1 p2 hwz
          go_wp2_with fail
          have hbz : Bk ((W6.setCell ⟨w.heap.size + 1, 0, none⟩ (.slice A5 n5 c5)).setCell ⟨w.heap.size + 1, 1, none⟩ (.slice A6 n6 c6)) (w.heap.size + 1) 32 #[.slice A5 n5 c5, .slice A6 n6 c6] := by
            have h := (HB6.out.rb.set 0 (.slice A5 n5 c5)).set 1 (.slice A6 n6 c6)
            simpa using h
          refine bodyPost_ret (v := .tuple #[.agg #[.slice A5 n5 c5, .slice A6 n6 c6], .slice (some ⟨q2, 0, none⟩) N N]) (rtrim_res hbz rfl rfl) rfl ?_
          have hKf : Kept (fun b => b = w.heap.size + 1) W6 ((W6.setCell ⟨w.heap.size + 1, 0, none⟩ (.slice A5 n5 c5)).setCell ⟨w.heap.size + 1, 1, none⟩ (.slice A6 n6 c6)) := (Kept.set W6 _ 0 _).trans (Kept.set _ _ 1 _)
          obtain ⟨g1, g2, g3, g4, g5⟩ := H6.out
          have hNl := HN.out.1
          have hLl : (inL N out).length = ns.length := by rw [inL_len, hNl]
          have hge := g2.ge.1
          refine ⟨g', q2, inL N out, ?_, (g1.kept hKf (fun c e => by rw [e]; exact g5)).mono (by omega), ?_, ?_, ?_, inL_len N out, fun p hp => ?_, HB6.out.bl.trans (hKf.below HB6.out.bl.size (fun c e => by rw [e]; omega))⟩
          · show _ = Ending.returned (.tuple #[.agg #[g'.vn, g'.vr], _])
            rw [HGv.out.1, HGv.out.2]
          · rw [← toO_ordB (inL_len N out)]
            exact (hKf.ow g2 (fun c e e2 => by injection e with e; have e3 : q2 = c := e; omega)).mono (by omega)
          · rw [g3]; exact pick_trim hLl
          · rw [g4]
            exact List.map_congr_left fun r _ => by rw [newO_pairs]
          · rw [inL_seen hp]
            exact HO3.out.2.2 p
end Go.Proofs.Ytidaimcndbhefaa
/- How arguments of types []bool and []int are opened. No conditions. -/
namespace Go.Proofs.Ytidaimcndbhefaa
set_option linter.unusedVariables false
set_option linter.unusedSimpArgs false
open Go.ChangeShapes Go.WideShapes Go.ChangeAt Go.RowKit
def boZ (b : Bool) : Value := .bool b
def inV (k : Int) : Value := .int .i64 k
theorem open_bools {H : Type} {enc : TypeId × Value → H} {P : Program} {W : World} {base : Nat} {hd : Bool} {r : Reach} {b0 : Nat} {t e : TypeId} {v : Value} {d : DataW H} {p : List MemPlace}
    (ht : P.underlying t = some (.slice e)) (he : P.underlying e = some .bool) (hc : P.cellsOf e = 1)
    (hv : Value.okWide P W r b0 t v) (h : DataW.Trod enc P W base (fun _ => true) hd t v d p) :
    ∃ (A : Option Addr) (bs : List Bool) (c : Nat), v = .slice A bs.length c ∧ bs.length ≤ c ∧ c ≤ maxLen ∧ (Rd boZ W W.heap.size A bs ∧ ∀ a, A = some a → a.block < W.heap.size) := by
  obtain ⟨a0, len, cap, rfl⟩ := okWide_slice ht hv
  obtain ⟨fuel, hf⟩ := h
  rcases Go.Deep.open_bools ht he hc hf with ⟨hcs, _⟩ | ⟨x, l, c, B, hcs, _, hl, hm, _, hcell⟩
  · simp [Value.cells] at hcs
    obtain ⟨rfl, rfl, rfl⟩ := hcs
    exact ⟨none, [], 0, rfl, Nat.le_refl _, by simp [maxLen], Rd.nil, fun a e => by cases e⟩
  · simp [Value.cells] at hcs
    obtain ⟨rfl, rfl, rfl⟩ := hcs
    have hx : x.block < W.heap.size := by
      have hx2 : Cell.okWide P W r b0 t (.slice (some x) len cap) := by unfold Value.okWide at hv; rw [ht] at hv; exact hv
      unfold Cell.okWide at hx2
      rw [ht] at hx2
      have hx3 : Cell.ok P W r b0 t (.slice (some x) len cap) := hx2
      unfold Cell.ok at hx3
      rw [ht] at hx3
      obtain ⟨_, _, _, _, row, cells, hs, _⟩ := hx3
      unfold World.shape? at hs
      by_cases hb : x.block < W.heap.size
      · exact hb
      · rw [Array.getElem?_eq_none (by omega)] at hs
        cases hs
    refine ⟨some x, (List.range len).map B, cap, by simp, by simp; omega, hm, fun j hj => ?_, fun a e => by cases e; exact hx⟩
    have hj' : j < len := by simp at hj; omega
    have hc1 := hcell j (by omega)
    have hb := cell_lt hc1
    rw [add_block] at hb
    exact ⟨x, rfl, hb, by rw [hc1]; simp [boZ]⟩
theorem open_intz {H : Type} {enc : TypeId × Value → H} {P : Program} {W : World} {base : Nat} {sp : Nat → Bool} {hd : Bool} {r : Reach} {b0 : Nat} {t e : TypeId} {v : Value} {d : DataW H} {p : List MemPlace}
    (ht : P.underlying t = some (.slice e)) (he : P.underlying e = some (.int .i64)) (hc : P.cellsOf e = 1)
    (hv : Value.okWide P W r b0 t v) (h : DataW.Trod enc P W base sp hd t v d p) :
    ∃ (A : Option Addr) (bs : List Int) (c : Nat), v = .slice A bs.length c ∧ bs.length ≤ c ∧ c ≤ maxLen ∧ (Rd inV W W.heap.size A bs ∧ ∀ x ∈ bs, (Lit.int .i64 x).wf = true) := by
  obtain ⟨a0, len, cap, rfl⟩ := okWide_slice ht hv
  obtain ⟨fuel, hf⟩ := h
  rcases open_ints ht he hc hf with ⟨hcs, _⟩ | ⟨x, l, c, zs, hcs, _, hl, hm, hz, _, hcell, hwz⟩
  · simp [Value.cells] at hcs
    obtain ⟨rfl, rfl, rfl⟩ := hcs
    exact ⟨none, [], 0, rfl, Nat.le_refl _, by simp [maxLen], Rd.nil, fun x hx => by cases hx⟩
  · simp [Value.cells] at hcs
    obtain ⟨rfl, rfl, rfl⟩ := hcs
    have hlen : len ≤ zs.length := by rw [hz]; split <;> omega
    refine ⟨some x, zs.take len, cap, by simp; omega, by simp; omega, hm, fun j hj => ?_, fun y hy => hwz y (List.mem_of_mem_take hy)⟩
    have hj' : j < len := by simp at hj; omega
    have hc1 := hcell j (by omega)
    have hb := cell_lt hc1
    rw [add_block] at hb
    refine ⟨x, rfl, hb, ?_⟩
    rw [hc1, List.getD_eq_getElem?_getD, List.getElem?_eq_getElem (by omega)]
    simp [inV]
end Go.Proofs.Ytidaimcndbhefaa
/- GraphAny: its regions. No conditions. -/
namespace Go.Proofs.Ytidaimcndbhefaa
set_option linter.unusedVariables false
set_option linter.unusedSimpArgs false
open Go.RowKit Go.Maps
theorem GBx.of2 {w : World} {s E : Nat} {g : Gv} {v0 v1 : Value} (h : Bk w s E #[v0, v1]) (hg : g.At w w.heap.size) : GBx w s g v0 v1 := fun W b => ⟨(h.below b h.lt).cell 0, (h.below b h.lt).cell 1, hg.up b⟩
theorem ck_same {a b : Gv} (h1 : b.n = a.n) (h2 : b.r = a.r) : ckG b = ckG a := by unfold ckG; rw [h1, h2]
theorem words_k {W : World} {g : Gv} {v : Value} (hv : g.v = v) (hf : FewP g) (h : g.At W W.heap.size) : Calls Try.prog 19 #[v] W (RetP (.int .i64 (wordsL g.n)) W) := by
  rw [← hv]; exact words_c W g h hf.small
theorem rwords_k {W : World} {g a : Gv} {v : Value} (hv : g.v = v) (hf : FewP g) (hn : g.n = a.n) (h : g.At W W.heap.size) : Calls Try.prog 20 #[v] W (RetP (.int .i64 (wordsL a.n)) W) := by
  rw [← hv, ← hn]; exact rwords_c W g h hf.small
theorem named_k {W : World} {g : Gv} {v : Value} (hv : g.v = v) (hf : FewP g) (h : g.At W W.heap.size) : Calls Try.prog 21 #[v] W fun e w2 => ∃ u, e = .returned u ∧ Below W.heap.size W w2 ∧ IntsV (g.r.map (·.t)) u w2 := by
  rw [← hv]
  refine (named_g W g h hf.small).mono ?_
  rintro e w2 ⟨v, rfl, ho, b2⟩
  obtain ⟨A', c', rfl, _⟩ := ho.form
  exact ⟨_, rfl, b2, A', c', rfl, ho.rd⟩
theorem rnamed_k {W : World} {g a : Gv} {v : Value} (hv : g.v = v) (hf : FewP g) (hn : g.r = a.r) (h : g.At W W.heap.size) : Calls Try.prog 22 #[v] W fun e w2 => ∃ u, e = .returned u ∧ Below W.heap.size W w2 ∧ IntsV (a.r.map (·.t)) u w2 := by
  rw [← hv, ← hn]
  refine (rnamed_c W g h hf.small).mono ?_
  rintro e w2 ⟨v, rfl, ho, b2⟩
  obtain ⟨A', c', rfl, _⟩ := ho.form
  exact ⟨_, rfl, b2, A', c', rfl, ho.rd⟩
theorem ints_k {W : World} {xs : List Int} {u v : Value} (hl : xs.length ≤ 1000) (h1 : IntsV xs u W) (h2 : IntsV xs v W) : Calls Try.prog 18 #[u, v] W (RetP (.bool true) W) := by
  obtain ⟨A1, c1, rfl, r1⟩ := h1
  obtain ⟨A2, c2, rfl, r2⟩ := h2
  exact ints_same W A1 A2 c1 c2 xs.length xs rfl hl r1 r2
theorem req_k2 {W : World} {a b : Gv} {u v : Value} (hf : FewP a) (hp : sameG a b = true) (hv : b.v = v) (ha : OfV a u W) (hb : b.At W W.heap.size) : Calls Try.prog 17 #[u, v] W (RetP (.bool true) W) := req_k hf hp ha ⟨b, hv.symm, hb, rfl, rfl⟩
theorem inL_nil (N : Nat) : inL N [] = List.replicate N false := by
  refine List.ext_getElem (by simp [inL]) fun i h1 h2 => ?_
  simp [inL]
theorem inL_set {N : Nat} {l : List Int} (n : Nat) : (inL N l).set n true = inL N (l ++ [(n : Int) + 1]) := by
  refine List.ext_getElem (by simp [inL]) fun i h1 h2 => ?_
  rw [List.getElem_set]
  have e2 : (inL N (l ++ [(n : Int) + 1]))[i] = decide ((i : Int) + 1 ∈ l ++ [(n : Int) + 1]) := by simp [inL]
  rw [e2]
  by_cases e : n = i
  · subst e
    rw [if_pos rfl]; simp
  · rw [if_neg e]
    simp [inL]
    intro e3
    omega
set_option maxHeartbeats 4000000
set_option maxRecDepth 100000
theorem any23_r (Q : Exit → Act → World → Prop) (a0 : Act) (w : World) (q1 q k N : Nat) (y : Bool) (hs : Hid (∀ W, Below w.heap.size w W → W.cell? ⟨q1, k, none⟩ = some (.bool y) ∧ W.cell? ⟨q, k, none⟩ = some (.bool y))) (p1 : (0 : Int) ≤ (k : Int)) (p2 : (k : Int) < (N : Int)) (hsz : a0.tmps.size = 114) (sl7 : a0.tmps.getD 7 undef = .slice (some ⟨q1, 0, none⟩) N N) (sl9 : a0.tmps.getD 9 undef = .slice (some ⟨q, 0, none⟩) N N) (sl11 : a0.tmps.getD 11 undef = .int .i64 k)
    (fin : ∀ (vals : Nat → Value) (w1 : World), Below w.heap.size w w1 → (IsV (.bool (y != y))) (vals 8) w1 → Q .normal (putD vals [70, 71, 72, 73, 74, 75, 76, 77, 78] 0 a0) w1) :
    (Code.region 23 (regIn Try.f3 23) true).wp Try.prog Q a0 w := by
  refine region_by (G := fun w w1 => Below w.heap.size w w1) [IsV (.slice (some ⟨q1, 0, none⟩) N N),
    IsV (.int .i64 k),
    IsV (.pointer (some ⟨q1, k, none⟩)),
    IsV (.bool y),
    IsV (.slice (some ⟨q, 0, none⟩) N N),
    IsV (.int .i64 k),
    IsV (.pointer (some ⟨q, k, none⟩)),
    IsV (.bool y),
    IsV (.bool (y != y))]
    [70, 71, 72, 73, 74, 75, 76, 77, 78] (by kernel_rfl) (Gw.drew _) Gw.trans (by rw [hsz]; kernel_rfl) (by kernel_rfl) ?_ ?_ ?_
  · intro f hf
    simp only [List.mem_cons, List.not_mem_nil, or_false] at hf
    rcases hf with rfl | rfl | rfl | rfl | rfl | rfl | rfl | rfl | rfl <;> intro v a b h g <;> first | exact IsV.mono h
  · refine ⟨?_, ?_, ?_, ?_, ?_, ?_, ?_, ?_, ?_, trivial⟩
    · exact owes_mv 7 (by kernel_rfl) (by kernel_rfl) (by kernel_rfl) sl7 (fun _ => rfl)
    · exact owes_mv 11 (by kernel_rfl) (by kernel_rfl) (by kernel_rfl) sl11 (fun _ => rfl)
    · refine owes_v (Go.Op.indexAddr 37 (Go.Operand.tmp 70) (Go.Operand.tmp 71)) 0 [0, 1] (by kernel_rfl) (by kernel_rfl) (by kernel_rfl) rfl fun vals w1 ρ hG hF hρ hcst hfun => ?_
      have e70 : ρ (.tmp 70) = .slice (some ⟨q1, 0, none⟩) N N := ((hρ 70).trans (slotJ [0, 1] (by rw [hsz]; decide) (by kernel_rfl))).trans (hF 0 (by decide))
      have e71 : ρ (.tmp 71) = .int .i64 k := ((hρ 71).trans (slotJ [0, 1] (by rw [hsz]; decide) (by kernel_rfl))).trans (hF 1 (by decide))
      clear hρ hF hcst hfun sl7 sl9 sl11 fin
      exact opv_val (by go_simp <;> rfl) ⟨gw_self _, rfl⟩
    · refine owes_v (Go.Op.load 4 (Go.Operand.tmp 72)) 4 [2] (by kernel_rfl) (by kernel_rfl) (by kernel_rfl) rfl fun vals w1 ρ hG hF hρ hcst hfun => ?_
      have e72 : ρ (.tmp 72) = .pointer (some ⟨q1, k, none⟩) := ((hρ 72).trans (slotJ [2] (by rw [hsz]; decide) (by kernel_rfl))).trans (hF 2 (by decide))
      have k := (hs.out w1 hG).1
      clear hρ hF hcst hfun sl7 sl9 sl11 fin
      exact opv_val (by go_simp <;> rfl) ⟨gw_self _, rfl⟩
    · exact owes_mv 9 (by kernel_rfl) (by kernel_rfl) (by kernel_rfl) sl9 (fun _ => rfl)
    · exact owes_mv 11 (by kernel_rfl) (by kernel_rfl) (by kernel_rfl) sl11 (fun _ => rfl)
    · refine owes_v (Go.Op.indexAddr 37 (Go.Operand.tmp 74) (Go.Operand.tmp 75)) 0 [4, 5] (by kernel_rfl) (by kernel_rfl) (by kernel_rfl) rfl fun vals w1 ρ hG hF hρ hcst hfun => ?_
      have e74 : ρ (.tmp 74) = .slice (some ⟨q, 0, none⟩) N N := ((hρ 74).trans (slotJ [4, 5] (by rw [hsz]; decide) (by kernel_rfl))).trans (hF 4 (by decide))
      have e75 : ρ (.tmp 75) = .int .i64 k := ((hρ 75).trans (slotJ [4, 5] (by rw [hsz]; decide) (by kernel_rfl))).trans (hF 5 (by decide))
      clear hρ hF hcst hfun sl7 sl9 sl11 fin
      exact opv_val (by go_simp <;> rfl) ⟨gw_self _, rfl⟩
    · refine owes_v (Go.Op.load 4 (Go.Operand.tmp 76)) 4 [6] (by kernel_rfl) (by kernel_rfl) (by kernel_rfl) rfl fun vals w1 ρ hG hF hρ hcst hfun => ?_
      have e76 : ρ (.tmp 76) = .pointer (some ⟨q, k, none⟩) := ((hρ 76).trans (slotJ [6] (by rw [hsz]; decide) (by kernel_rfl))).trans (hF 6 (by decide))
      have k := (hs.out w1 hG).2
      clear hρ hF hcst hfun sl7 sl9 sl11 fin
      exact opv_val (by go_simp <;> rfl) ⟨gw_self _, rfl⟩
    · refine owes_v (Go.Op.binOp Go.BinOp.neq 4 (Go.Operand.tmp 73) (Go.Operand.tmp 77) 4) 4 [3, 7] (by kernel_rfl) (by kernel_rfl) (by kernel_rfl) rfl fun vals w1 ρ hG hF hρ hcst hfun => ?_
      have e73 : ρ (.tmp 73) = .bool y := ((hρ 73).trans (slotJ [3, 7] (by rw [hsz]; decide) (by kernel_rfl))).trans (hF 3 (by decide))
      have e77 : ρ (.tmp 77) = .bool y := ((hρ 77).trans (slotJ [3, 7] (by rw [hsz]; decide) (by kernel_rfl))).trans (hF 7 (by decide))
      clear hρ hF hcst hfun sl7 sl9 sl11 fin
      exact opv_val (by go_simp <;> rfl) ⟨gw_self _, rfl⟩
  · intro vals w1 hG hF
    exact fin vals w1 hG (hF 8 (by decide +kernel))
theorem any27_r (Q : Exit → Act → World → Prop) (a0 : Act) (w : World) (sa sx st su q3 q4 N0 : Nat) (ga gx gt gu : Gv) (A A2 X X2 T T2 U U2 : Option Addr) (N M N' M' K L K' L' a1 a2 x1 x2 t1 t2 u1 u2 : Nat) (to : List Int) (hga : ga.v = .agg #[.slice A N a1, .slice A2 M a2]) (hgx : gx.v = .agg #[.slice X N' x1, .slice X2 M' x2]) (hgt : gt.v = .agg #[.slice T K t1, .slice T2 L t2]) (hgu : gu.v = .agg #[.slice U K' u1, .slice U2 L' u2]) (hfa : FewP ga) (hfx : FewP gx) (hft : FewP gt) (hxn : gx.n = ga.n) (hxr : gx.r = ga.r) (ha : Hid (GBx w sa ga (.slice A N a1) (.slice A2 M a2))) (hx : Hid (GBx w sx gx (.slice X N' x1) (.slice X2 M' x2))) (ht : Hid (GBx w st gt (.slice T K t1) (.slice T2 L t2))) (hu : Hid (GBx w su gu (.slice U K' u1) (.slice U2 L' u2))) (hsame : sameG gt gu = true) (hto : Hid (∀ W, Below w.heap.size w W → IntsV to (.slice (some ⟨q3, 0, none⟩) N0 N0) W ∧ IntsV to (.slice (some ⟨q4, 0, none⟩) N0 N0) W)) (hl : to.length ≤ 1000) (hl2 : (ga.r.map (·.t)).length ≤ 1000) (hsz : a0.tmps.size = 114) (sl2 : a0.tmps.getD 2 undef = .pointer (some ⟨sa, 0, none⟩)) (sl5 : a0.tmps.getD 5 undef = .pointer (some ⟨sx, 0, none⟩)) (sl12 : a0.tmps.getD 12 undef = .pointer (some ⟨st, 0, none⟩)) (sl13 : a0.tmps.getD 13 undef = .slice (some ⟨q3, 0, none⟩) N0 N0) (sl14 : a0.tmps.getD 14 undef = .pointer (some ⟨su, 0, none⟩)) (sl15 : a0.tmps.getD 15 undef = .slice (some ⟨q4, 0, none⟩) N0 N0)
    (fin : ∀ (vals : Nat → Value) (w1 : World), Below w.heap.size w w1 → (IsV (.bool true)) (vals 23) w1 → Q .normal (putD vals [91, 92, 93, 94, 95, 96, 97, 98, 99, 100, 101, 102, 103, 104, 105, 106, 107, 108, 109, 110, 111, 112, 113, 4] 0 a0) w1) :
    (Code.region 27 (regIn Try.f3 27) true).wp Try.prog Q a0 w := by
  refine region_by (G := fun w w1 => Below w.heap.size w w1) [IsV (.agg #[.slice T K t1, .slice T2 L t2]),
    OfV gt,
    IsV (.agg #[.slice U K' u1, .slice U2 L' u2]),
    IsV (.bool true),
    IsV (.bool true),
    IsV (.slice (some ⟨q3, 0, none⟩) N0 N0),
    IsV (.slice (some ⟨q4, 0, none⟩) N0 N0),
    IsV (.bool true),
    IsV (.bool true),
    IsV (.bool true),
    IsV (.agg #[.slice A N a1, .slice A2 M a2]),
    IsV (.int .i64 (wordsL ga.n)),
    IsV (.agg #[.slice X N' x1, .slice X2 M' x2]),
    IsV (.int .i64 (wordsL ga.n)),
    IsV (.bool true),
    IsV (.bool true),
    IsV (.bool true),
    IsV (.agg #[.slice A N a1, .slice A2 M a2]),
    IntsV (ga.r.map (·.t)),
    IsV (.agg #[.slice X N' x1, .slice X2 M' x2]),
    IntsV (ga.r.map (·.t)),
    IsV (.bool true),
    IsV (.bool true),
    IsV (.bool true)]
    [91, 92, 93, 94, 95, 96, 97, 98, 99, 100, 101, 102, 103, 104, 105, 106, 107, 108, 109, 110, 111, 112, 113, 4] (by kernel_rfl) (Gw.drew _) Gw.trans (by rw [hsz]; kernel_rfl) (by kernel_rfl) ?_ ?_ ?_
  · intro f hf
    simp only [List.mem_cons, List.not_mem_nil, or_false] at hf
    rcases hf with rfl | rfl | rfl | rfl | rfl | rfl | rfl | rfl | rfl | rfl | rfl | rfl | rfl | rfl | rfl | rfl | rfl | rfl | rfl | rfl | rfl | rfl | rfl | rfl <;> intro v a b h g <;> first | exact IsV.mono h | exact OfV.mono h g | exact IntsV.mono h g
  · refine ⟨?_, ?_, ?_, ?_, ?_, ?_, ?_, ?_, ?_, ?_, ?_, ?_, ?_, ?_, ?_, ?_, ?_, ?_, ?_, ?_, ?_, ?_, ?_, ?_, trivial⟩
    · refine owes_v (Go.Op.load 25 (Go.Operand.tmp 12)) 25 [] (by kernel_rfl) (by kernel_rfl) (by kernel_rfl) rfl fun vals w1 ρ hG hF hρ hcst hfun => ?_
      have e12 : ρ (.tmp 12) = .pointer (some ⟨st, 0, none⟩) := ((hρ 12).trans (slotO [] (by kernel_rfl))).trans sl12
      obtain ⟨d0, d1, _⟩ := ht.out w1 hG
      clear hρ hF hcst hfun sl2 sl5 sl12 sl13 sl14 sl15 fin
      exact opv_val (by go_simp <;> rfl) ⟨gw_self _, rfl⟩
    · refine owes_v (Go.Op.call { callee := Go.Callee.value (Go.Operand.func 10), args := #[Go.Operand.tmp 91], argTypes := #[25] }) 32 [0] (by kernel_rfl) (by kernel_rfl) (by kernel_rfl) rfl fun vals w1 ρ hG hF hρ hcst hfun => ?_
      have e91 : ρ (.tmp 91) = .agg #[.slice T K t1, .slice T2 L t2] := ((hρ 91).trans (slotJ [0] (by rw [hsz]; decide) (by kernel_rfl))).trans (hF 0 (by decide))
      clear hρ hF hcst sl2 sl5 sl12 sl13 sl14 sl15 fin
      exact opv_enter (by go_simp <;> rfl) (of_k hgt hft (ht.out w1 hG).2.2)
    · refine owes_v (Go.Op.load 32 (Go.Operand.tmp 14)) 32 [] (by kernel_rfl) (by kernel_rfl) (by kernel_rfl) rfl fun vals w1 ρ hG hF hρ hcst hfun => ?_
      have e14 : ρ (.tmp 14) = .pointer (some ⟨su, 0, none⟩) := ((hρ 14).trans (slotO [] (by kernel_rfl))).trans sl14
      obtain ⟨d0, d1, _⟩ := hu.out w1 hG
      clear hρ hF hcst hfun sl2 sl5 sl12 sl13 sl14 sl15 fin
      exact opv_val (by go_simp <;> rfl) ⟨gw_self _, rfl⟩
    · refine owes_v (Go.Op.call { callee := Go.Callee.value (Go.Operand.func 17), args := #[Go.Operand.tmp 92, Go.Operand.tmp 93], argTypes := #[32, 32] }) 4 [1, 2] (by kernel_rfl) (by kernel_rfl) (by kernel_rfl) rfl fun vals w1 ρ hG hF hρ hcst hfun => ?_
      have f92 : (OfV gt) (vals 1) w1 := hF 1 (by decide)
      have e92 : ρ (.tmp 92) = vals 1 := (hρ 92).trans (slotJ [1, 2] (by rw [hsz]; decide) (by kernel_rfl))
      have e93 : ρ (.tmp 93) = .agg #[.slice U K' u1, .slice U2 L' u2] := ((hρ 93).trans (slotJ [1, 2] (by rw [hsz]; decide) (by kernel_rfl))).trans (hF 2 (by decide))
      clear hρ hF hcst sl2 sl5 sl12 sl13 sl14 sl15 fin
      exact opv_enter (by go_simp <;> rfl) (of_retK (req_k2 hft hsame hgu f92 (hu.out w1 hG).2.2))
    · exact owes_mvj 3 94 (by kernel_rfl) (by kernel_rfl) (by kernel_rfl) (by kernel_rfl) (by rw [hsz]; decide) (fun v w h => h)
    · refine owes_vt 4 true (Go.Op.move (Go.Operand.tmp 13)) 26 [] (by kernel_rfl) (by kernel_rfl) (by kernel_rfl) (fun _ _ h => h) (by rw [hsz]; kernel_rfl) (by kernel_rfl) rfl fun vals w1 ρ hG hF hρ hcst hfun => ?_
      have e13 : ρ (.tmp 13) = .slice (some ⟨q3, 0, none⟩) N0 N0 := ((hρ 13).trans (slotO [] (by kernel_rfl))).trans sl13
      clear hρ hF hcst hfun sl2 sl5 sl12 sl13 sl14 sl15 fin
      exact opv_val (by go_simp <;> rfl) ⟨gw_self _, rfl⟩
    · refine owes_vt 4 true (Go.Op.move (Go.Operand.tmp 15)) 26 [] (by kernel_rfl) (by kernel_rfl) (by kernel_rfl) (fun _ _ h => h) (by rw [hsz]; kernel_rfl) (by kernel_rfl) rfl fun vals w1 ρ hG hF hρ hcst hfun => ?_
      have e15 : ρ (.tmp 15) = .slice (some ⟨q4, 0, none⟩) N0 N0 := ((hρ 15).trans (slotO [] (by kernel_rfl))).trans sl15
      clear hρ hF hcst hfun sl2 sl5 sl12 sl13 sl14 sl15 fin
      exact opv_val (by go_simp <;> rfl) ⟨gw_self _, rfl⟩
    · refine owes_vt 4 true (Go.Op.call { callee := Go.Callee.value (Go.Operand.func 18), args := #[Go.Operand.tmp 96, Go.Operand.tmp 97], argTypes := #[26, 26] }) 4 [5, 6] (by kernel_rfl) (by kernel_rfl) (by kernel_rfl) (fun _ _ h => h) (by rw [hsz]; kernel_rfl) (by kernel_rfl) rfl fun vals w1 ρ hG hF hρ hcst hfun => ?_
      have e96 : ρ (.tmp 96) = .slice (some ⟨q3, 0, none⟩) N0 N0 := ((hρ 96).trans (slotJ [5, 6] (by rw [hsz]; decide) (by kernel_rfl))).trans (hF 5 (by decide))
      have e97 : ρ (.tmp 97) = .slice (some ⟨q4, 0, none⟩) N0 N0 := ((hρ 97).trans (slotJ [5, 6] (by rw [hsz]; decide) (by kernel_rfl))).trans (hF 6 (by decide))
      clear hρ hF hcst sl2 sl5 sl12 sl13 sl14 sl15 fin
      exact opv_enter (by go_simp <;> rfl) (of_retK (ints_k hl (hto.out w1 hG).1 (hto.out w1 hG).2))
    · refine owes_v (Go.Op.pick (Go.Operand.tmp 95) (Go.Operand.tmp 98) (Go.Operand.const (Go.Value.bool false))) 4 [4, 7] (by kernel_rfl) (by kernel_rfl) (by kernel_rfl) rfl fun vals w1 ρ hG hF hρ hcst hfun => ?_
      have e95 : ρ (.tmp 95) = .bool true := ((hρ 95).trans (slotJ [4, 7] (by rw [hsz]; decide) (by kernel_rfl))).trans (hF 4 (by decide))
      have e98 : ρ (.tmp 98) = .bool true := ((hρ 98).trans (slotJ [4, 7] (by rw [hsz]; decide) (by kernel_rfl))).trans (hF 7 (by decide))
      clear hρ hF hfun sl2 sl5 sl12 sl13 sl14 sl15 fin
      exact opv_val (by go_simp <;> rfl) ⟨gw_self _, rfl⟩
    · exact owes_mvj 8 99 (by kernel_rfl) (by kernel_rfl) (by kernel_rfl) (by kernel_rfl) (by rw [hsz]; decide) (fun v w h => h)
    · refine owes_vt 9 true (Go.Op.load 25 (Go.Operand.tmp 2)) 25 [] (by kernel_rfl) (by kernel_rfl) (by kernel_rfl) (fun _ _ h => h) (by rw [hsz]; kernel_rfl) (by kernel_rfl) rfl fun vals w1 ρ hG hF hρ hcst hfun => ?_
      have e2 : ρ (.tmp 2) = .pointer (some ⟨sa, 0, none⟩) := ((hρ 2).trans (slotO [] (by kernel_rfl))).trans sl2
      obtain ⟨d0, d1, _⟩ := ha.out w1 hG
      clear hρ hF hcst hfun sl2 sl5 sl12 sl13 sl14 sl15 fin
      exact opv_val (by go_simp <;> rfl) ⟨gw_self _, rfl⟩
    · refine owes_vt 9 true (Go.Op.call { callee := Go.Callee.value (Go.Operand.func 19), args := #[Go.Operand.tmp 101], argTypes := #[25] }) 3 [10] (by kernel_rfl) (by kernel_rfl) (by kernel_rfl) (fun _ _ h => h) (by rw [hsz]; kernel_rfl) (by kernel_rfl) rfl fun vals w1 ρ hG hF hρ hcst hfun => ?_
      have e101 : ρ (.tmp 101) = .agg #[.slice A N a1, .slice A2 M a2] := ((hρ 101).trans (slotJ [10] (by rw [hsz]; decide) (by kernel_rfl))).trans (hF 10 (by decide))
      clear hρ hF hcst sl2 sl5 sl12 sl13 sl14 sl15 fin
      exact opv_enter (by go_simp <;> rfl) (of_retK (words_k hga hfa (ha.out w1 hG).2.2))
    · refine owes_vt 9 true (Go.Op.load 32 (Go.Operand.tmp 5)) 32 [] (by kernel_rfl) (by kernel_rfl) (by kernel_rfl) (fun _ _ h => h) (by rw [hsz]; kernel_rfl) (by kernel_rfl) rfl fun vals w1 ρ hG hF hρ hcst hfun => ?_
      have e5 : ρ (.tmp 5) = .pointer (some ⟨sx, 0, none⟩) := ((hρ 5).trans (slotO [] (by kernel_rfl))).trans sl5
      obtain ⟨d0, d1, _⟩ := hx.out w1 hG
      clear hρ hF hcst hfun sl2 sl5 sl12 sl13 sl14 sl15 fin
      exact opv_val (by go_simp <;> rfl) ⟨gw_self _, rfl⟩
    · refine owes_vt 9 true (Go.Op.call { callee := Go.Callee.value (Go.Operand.func 20), args := #[Go.Operand.tmp 103], argTypes := #[32] }) 3 [12] (by kernel_rfl) (by kernel_rfl) (by kernel_rfl) (fun _ _ h => h) (by rw [hsz]; kernel_rfl) (by kernel_rfl) rfl fun vals w1 ρ hG hF hρ hcst hfun => ?_
      have e103 : ρ (.tmp 103) = .agg #[.slice X N' x1, .slice X2 M' x2] := ((hρ 103).trans (slotJ [12] (by rw [hsz]; decide) (by kernel_rfl))).trans (hF 12 (by decide))
      clear hρ hF hcst sl2 sl5 sl12 sl13 sl14 sl15 fin
      exact opv_enter (by go_simp <;> rfl) (of_retK (rwords_k hgx hfx hxn (hx.out w1 hG).2.2))
    · refine owes_vt 9 true (Go.Op.binOp Go.BinOp.eql 3 (Go.Operand.tmp 102) (Go.Operand.tmp 104) 3) 4 [11, 13] (by kernel_rfl) (by kernel_rfl) (by kernel_rfl) (fun _ _ h => h) (by rw [hsz]; kernel_rfl) (by kernel_rfl) rfl fun vals w1 ρ hG hF hρ hcst hfun => ?_
      have e102 : ρ (.tmp 102) = .int .i64 (wordsL ga.n) := ((hρ 102).trans (slotJ [11, 13] (by rw [hsz]; decide) (by kernel_rfl))).trans (hF 11 (by decide))
      have e104 : ρ (.tmp 104) = .int .i64 (wordsL ga.n) := ((hρ 104).trans (slotJ [11, 13] (by rw [hsz]; decide) (by kernel_rfl))).trans (hF 13 (by decide))
      clear hρ hF hcst hfun sl2 sl5 sl12 sl13 sl14 sl15 fin
      exact opv_val (by go_simp <;> rfl) ⟨gw_self _, rfl⟩
    · refine owes_v (Go.Op.pick (Go.Operand.tmp 100) (Go.Operand.tmp 105) (Go.Operand.const (Go.Value.bool false))) 4 [9, 14] (by kernel_rfl) (by kernel_rfl) (by kernel_rfl) rfl fun vals w1 ρ hG hF hρ hcst hfun => ?_
      have e100 : ρ (.tmp 100) = .bool true := ((hρ 100).trans (slotJ [9, 14] (by rw [hsz]; decide) (by kernel_rfl))).trans (hF 9 (by decide))
      have e105 : ρ (.tmp 105) = .bool true := ((hρ 105).trans (slotJ [9, 14] (by rw [hsz]; decide) (by kernel_rfl))).trans (hF 14 (by decide))
      clear hρ hF hfun sl2 sl5 sl12 sl13 sl14 sl15 fin
      exact opv_val (by go_simp <;> rfl) ⟨gw_self _, rfl⟩
    · exact owes_mvj 15 106 (by kernel_rfl) (by kernel_rfl) (by kernel_rfl) (by kernel_rfl) (by rw [hsz]; decide) (fun v w h => h)
    · refine owes_vt 16 true (Go.Op.load 25 (Go.Operand.tmp 2)) 25 [] (by kernel_rfl) (by kernel_rfl) (by kernel_rfl) (fun _ _ h => h) (by rw [hsz]; kernel_rfl) (by kernel_rfl) rfl fun vals w1 ρ hG hF hρ hcst hfun => ?_
      have e2 : ρ (.tmp 2) = .pointer (some ⟨sa, 0, none⟩) := ((hρ 2).trans (slotO [] (by kernel_rfl))).trans sl2
      obtain ⟨d0, d1, _⟩ := ha.out w1 hG
      clear hρ hF hcst hfun sl2 sl5 sl12 sl13 sl14 sl15 fin
      exact opv_val (by go_simp <;> rfl) ⟨gw_self _, rfl⟩
    · refine owes_vt 16 true (Go.Op.call { callee := Go.Callee.value (Go.Operand.func 21), args := #[Go.Operand.tmp 108], argTypes := #[25] }) 26 [17] (by kernel_rfl) (by kernel_rfl) (by kernel_rfl) (fun _ _ h => h) (by rw [hsz]; kernel_rfl) (by kernel_rfl) rfl fun vals w1 ρ hG hF hρ hcst hfun => ?_
      have e108 : ρ (.tmp 108) = .agg #[.slice A N a1, .slice A2 M a2] := ((hρ 108).trans (slotJ [17] (by rw [hsz]; decide) (by kernel_rfl))).trans (hF 17 (by decide))
      clear hρ hF hcst sl2 sl5 sl12 sl13 sl14 sl15 fin
      exact opv_enter (by go_simp <;> rfl) (named_k hga hfa (ha.out w1 hG).2.2)
    · refine owes_vt 16 true (Go.Op.load 32 (Go.Operand.tmp 5)) 32 [] (by kernel_rfl) (by kernel_rfl) (by kernel_rfl) (fun _ _ h => h) (by rw [hsz]; kernel_rfl) (by kernel_rfl) rfl fun vals w1 ρ hG hF hρ hcst hfun => ?_
      have e5 : ρ (.tmp 5) = .pointer (some ⟨sx, 0, none⟩) := ((hρ 5).trans (slotO [] (by kernel_rfl))).trans sl5
      obtain ⟨d0, d1, _⟩ := hx.out w1 hG
      clear hρ hF hcst hfun sl2 sl5 sl12 sl13 sl14 sl15 fin
      exact opv_val (by go_simp <;> rfl) ⟨gw_self _, rfl⟩
    · refine owes_vt 16 true (Go.Op.call { callee := Go.Callee.value (Go.Operand.func 22), args := #[Go.Operand.tmp 110], argTypes := #[32] }) 26 [19] (by kernel_rfl) (by kernel_rfl) (by kernel_rfl) (fun _ _ h => h) (by rw [hsz]; kernel_rfl) (by kernel_rfl) rfl fun vals w1 ρ hG hF hρ hcst hfun => ?_
      have e110 : ρ (.tmp 110) = .agg #[.slice X N' x1, .slice X2 M' x2] := ((hρ 110).trans (slotJ [19] (by rw [hsz]; decide) (by kernel_rfl))).trans (hF 19 (by decide))
      clear hρ hF hcst sl2 sl5 sl12 sl13 sl14 sl15 fin
      exact opv_enter (by go_simp <;> rfl) (rnamed_k hgx hfx hxr (hx.out w1 hG).2.2)
    · refine owes_vt 16 true (Go.Op.call { callee := Go.Callee.value (Go.Operand.func 18), args := #[Go.Operand.tmp 109, Go.Operand.tmp 111], argTypes := #[26, 26] }) 4 [18, 20] (by kernel_rfl) (by kernel_rfl) (by kernel_rfl) (fun _ _ h => h) (by rw [hsz]; kernel_rfl) (by kernel_rfl) rfl fun vals w1 ρ hG hF hρ hcst hfun => ?_
      have f109 : (IntsV (ga.r.map (·.t))) (vals 18) w1 := hF 18 (by decide)
      have e109 : ρ (.tmp 109) = vals 18 := (hρ 109).trans (slotJ [18, 20] (by rw [hsz]; decide) (by kernel_rfl))
      have f111 : (IntsV (ga.r.map (·.t))) (vals 20) w1 := hF 20 (by decide)
      have e111 : ρ (.tmp 111) = vals 20 := (hρ 111).trans (slotJ [18, 20] (by rw [hsz]; decide) (by kernel_rfl))
      clear hρ hF hcst sl2 sl5 sl12 sl13 sl14 sl15 fin
      exact opv_enter (by go_simp <;> rfl) (of_retK (ints_k hl2 f109 f111))
    · refine owes_v (Go.Op.pick (Go.Operand.tmp 107) (Go.Operand.tmp 112) (Go.Operand.const (Go.Value.bool false))) 4 [16, 21] (by kernel_rfl) (by kernel_rfl) (by kernel_rfl) rfl fun vals w1 ρ hG hF hρ hcst hfun => ?_
      have e107 : ρ (.tmp 107) = .bool true := ((hρ 107).trans (slotJ [16, 21] (by rw [hsz]; decide) (by kernel_rfl))).trans (hF 16 (by decide))
      have e112 : ρ (.tmp 112) = .bool true := ((hρ 112).trans (slotJ [16, 21] (by rw [hsz]; decide) (by kernel_rfl))).trans (hF 21 (by decide))
      clear hρ hF hfun sl2 sl5 sl12 sl13 sl14 sl15 fin
      exact opv_val (by go_simp <;> rfl) ⟨gw_self _, rfl⟩
    · exact owes_mvj 22 113 (by kernel_rfl) (by kernel_rfl) (by kernel_rfl) (by kernel_rfl) (by rw [hsz]; decide) (fun v w h => h)
  · intro vals w1 hG hF
    exact fin vals w1 hG (hF 23 (by decide +kernel))
end Go.Proofs.Ytidaimcndbhefaa
/- GraphAny: what a trimmed graph has. No conditions. -/
namespace Go.Proofs.Ytidaimcndbhefaa
set_option linter.unusedVariables false
set_option linter.unusedSimpArgs false
open Go.RowKit Go.Maps
theorem gv_cut {g : Gv} : ∃ (N M : Nat), N = g.n.length ∧ M = g.r.length ∧ g.v = .agg #[.slice g.A N g.c, .slice g.A2 M g.c2] := ⟨_, _, rfl, rfl, rfl⟩
theorem trimN_of (now : List (Int × Int)) : ∀ (ns : List Nv) (L : List Bool), (trimN now ns L).length ≤ ns.length ∧ ∀ y ∈ trimN now ns L, ∃ x ∈ ns, y = (x.ps.map (newP now), x.bs)
  | [], _ => ⟨by unfold trimN; exact Nat.le_refl _, fun y hy => by unfold trimN at hy; cases hy⟩
  | x :: r, [] => ⟨by unfold trimN; exact Nat.zero_le _, fun y hy => by unfold trimN at hy; cases hy⟩
  | x :: r, b :: l => by
    obtain ⟨h1, h2⟩ := trimN_of now r l
    unfold trimN
    cases b
    · rw [if_neg (by simp)]
      exact ⟨by rw [List.length_cons]; omega, fun y hy => by obtain ⟨z, hz, e⟩ := h2 y hy; exact ⟨z, List.mem_cons_of_mem _ hz, e⟩⟩
    · rw [if_pos rfl]
      refine ⟨by rw [List.length_cons, List.length_cons]; omega, fun y hy => ?_⟩
      rcases List.mem_cons.1 hy with rfl | hy
      · exact ⟨x, List.mem_cons_self, rfl⟩
      · obtain ⟨z, hz, e⟩ := h2 y hy; exact ⟨z, List.mem_cons_of_mem _ hz, e⟩
theorem FewP.trim {g t : Gv} {now : List (Int × Int)} {L : List Bool} (h : FewP g) (h1 : t.n.map Nv.m = trimN now g.n L) (h2 : t.r = g.r.map fun r => (⟨r.s, newP now r.t⟩ : Rv)) : FewP t := by
  obtain ⟨a, b⟩ := trimN_of now g.n L
  rw [← h1] at a b
  rw [List.length_map] at a
  refine ⟨by have := h.1; omega, by rw [h2, List.length_map]; exact h.2.1, fun x hx => ?_, fun r hr => ?_⟩
  · obtain ⟨y, hy, e⟩ := b x.m (List.mem_map.2 ⟨x, hx, rfl⟩)
    have := h.2.2.1 y hy
    unfold Nv.m at e
    injection e with e1 e2
    rw [e1, e2, List.length_map]
    exact this
  · rw [h2] at hr
    obtain ⟨s, hs, rfl⟩ := List.mem_map.1 hr
    exact h.2.2.2 s hs
theorem okP_wf {N : Nat} {p : Int} (hN : N ≤ 1000) (h : okP N p = true) : (Lit.int .i64 p).wf = true := by
  have := okP_iff.1 h
  exact wfI (by omega) (by omega)
theorem seen_all {N : Nat} {ns : List Nv} {fr out : List Int} {L : List Bool} (hN : N = ns.length) (hl : L.length = N) (h : ∀ p, hasG N p = true → (seenG L p = true ↔ Rch ns fr p)) (h2 : ∀ p, p ∈ out ↔ Rch ns fr p) : L = inL N out :=
  seen_in hl fun p hp => by rw [h p hp, h2 p]
theorem seen_two {N : Nat} {ns : List Nv} {fr : List Int} {L L' : List Bool} (hl : L.length = N) (hl' : L'.length = N) (h : ∀ p, hasG N p = true → (seenG L p = true ↔ Rch ns fr p)) (h2 : ∀ p, hasG N p = true → (seenG L' p = true ↔ Rch ns fr p)) : L = L' := by
  refine List.ext_getElem (by rw [hl, hl']) fun i h1 h3 => ?_
  have hp : hasG N ((i : Int) + 1) = true := hasG_iff.2 (by omega)
  have e := (h _ hp).trans (h2 _ hp).symm
  have h4 : seenG L ((i : Int) + 1) = L[i] := by
    unfold seenG
    rw [show ((i : Int) + 1 - 1).toNat = i by omega, List.getD_eq_getElem?_getD, List.getElem?_eq_getElem h1]; rfl
  have h5 : seenG L' ((i : Int) + 1) = L'[i] := by
    unfold seenG
    rw [show ((i : Int) + 1 - 1).toNat = i by omega, List.getD_eq_getElem?_getD, List.getElem?_eq_getElem h3]; rfl
  rw [h4, h5] at e
  rw [Bool.eq_iff_iff]; exact e
end Go.Proofs.Ytidaimcndbhefaa
