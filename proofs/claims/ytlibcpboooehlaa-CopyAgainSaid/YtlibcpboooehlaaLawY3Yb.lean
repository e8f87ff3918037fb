/- The law CopyAgain of layer 21 returns true for every argument. No conditions. -/
import Derived.Test.YtlibcpboooehlaaYb5
namespace Go.Proofs.Ytlibcpboooehlaa
set_option linter.unusedVariables false
set_option linter.unusedSimpArgs false
open Go.RowKit Go.Maps
theorem roots_len : ∀ (ps : List Nat) (c : Cy) {qs : List Nat} {d : Cy}, rootsC ps c = some (qs, d) → qs.length = ps.length
  | [], c, qs, d, e => by
    have e : some (([] : List Nat), c) = some (qs, d) := e
    injection e with e
    injection e with e1 e2
    rw [← e1]
  | p :: ps, c, qs, d, e => by
    have e : (match takeP c p with | none => none | some (q, z) => match rootsC ps z with | none => none | some (qs, e) => some (q :: qs, e)) = some (qs, d) := e
    cases hr : takeP c p with
    | none => rw [hr] at e; cases e
    | some w =>
      obtain ⟨q, z⟩ := w
      rw [hr] at e
      have e : (match rootsC ps z with | none => none | some (qs, e) => some (q :: qs, e)) = some (qs, d) := e
      cases hr2 : rootsC ps z with
      | none => rw [hr2] at e; cases e
      | some w2 =>
        obtain ⟨q2, z2⟩ := w2
        rw [hr2] at e
        injection e with e
        injection e with e1 e2
        rw [← e1, List.length_cons, List.length_cons, roots_len ps z hr2]
theorem copy_len {ws : List (BitVec 64)} {m : Nat} {ps qs : List Nat} {d : Cy} (e : copyC ws m ps = some (qs, d)) : qs.length = ps.length := by
  unfold copyC at e
  cases hr : rootsC ps ⟨ws, List.replicate m 0#64, 0⟩ with
  | none => rw [hr] at e; cases e
  | some w =>
    obtain ⟨q2, c1⟩ := w
    rw [hr] at e
    have e : (goC (m + 1) 0 c1).map (fun d => (q2, d)) = some (qs, d) := e
    cases hg : goC (m + 1) 0 c1 with
    | none => rw [hg] at e; cases e
    | some d2 =>
      rw [hg] at e
      injection e with e
      injection e with e1 e2
      rw [← e1]; exact roots_len ps _ hr
theorem check0 {ws : List (BitVec 64)} {b t : Nat} {l : List Nat} {roots : List Int} (ho : objF ws t (t + 1) b = some l) (h : checkE ws b t roots = 0) : l.all (wellN ws l) = true ∧ roots.all (rootB l) = true := by
  unfold checkE at h
  rw [ho] at h
  simp only at h
  by_cases h1 : l.all (wellN ws l) = true
  · rw [if_pos h1] at h
    by_cases h2 : roots.all (rootB l) = true
    · exact ⟨h1, h2⟩
    · rw [if_neg h2] at h; cases h
  · rw [if_neg h1] at h; cases h
theorem roots_ps {l : List Nat} {roots : List Int} (h : roots.all (rootB l) = true) : ∀ p ∈ roots.map rootP, p = 0 ∨ (1 ≤ p ∧ p - 1 ∈ l) := by
  intro p hp
  obtain ⟨r, hr, rfl⟩ := List.mem_map.1 hp
  exact (rootP_of (List.all_eq_true.1 h r hr)).2
theorem back_map (qs : List Nat) : (backZ qs).map rootP = qs := by
  unfold backZ
  rw [List.map_map]
  conv => rhs; rw [← List.map_id qs]
  refine List.map_congr_left fun q _ => ?_
  show (((q : Int) - 1) + 1).toNat = q
  omega
theorem back_root {l2 : List Nat} {qs : List Nat} (h : ∀ q ∈ qs, q = 0 ∨ (1 ≤ q ∧ q - 1 ∈ l2)) : (backZ qs).all (rootB l2) = true := by
  refine List.all_eq_true.2 fun r hr => ?_
  obtain ⟨q, hq, rfl⟩ := List.mem_map.1 hr
  unfold rootB
  refine decide_eq_true ?_
  rcases h q hq with rfl | ⟨h1, h2⟩
  · exact .inl rfl
  · exact .inr ⟨q - 1, h2, by omega⟩
theorem back_kw {top : Nat} (ht : top ≤ 8192) {qs : List Nat} (h : ∀ q ∈ qs, q = 0 ∨ (1 ≤ q ∧ q - 1 < top)) : ∀ r ∈ backZ qs, kW r := by
  intro r hr
  obtain ⟨q, hq, rfl⟩ := List.mem_map.1 hr
  have : q ≤ 8192 := by
    rcases h q hq with rfl | ⟨h1, h2⟩ <;> omega
  unfold kW
  simp [Lit.wf, IntKind.min, IntKind.max, IntKind.signed, IntKind.bits]
  omega
set_option maxHeartbeats 4000000
set_option maxRecDepth 100000
theorem copy_err (w : World) (s : Value) (A : Option Addr) (n c : Nat) (words E : Int) (hE : E ≠ 0) (HN : Hid (Calls Try.prog 25 #[s, .slice A n c, .int .i64 words] w (RetP (.tuple #[.pointer none, .int .i64 E]) w))) :
    Calls Try.prog 9 #[s, .slice A n c, .int .i64 words] w (RetP (.tuple #[.pointer none, .slice none 0 0, .int .i64 E]) w) := by
  go_enter Try.func9, Try.ntmps9
  go_wp2_with fail
  refine Calls.mono HN.out ?_
  rintro r w2 ⟨rfl, b2⟩
  have H2 := Lib.hid b2
  clear b2
  go_wp2_with fail
  go_ret3
  exact ⟨rfl, H2.out⟩
/-- cheney.Copy, in the law: not OK, or a copy that may be copied again. -/
structure AgT (qs : List Nat) (d : Cy) (M : Nat) (W : World) (B s g : Nat) (v : Value) (q : Nat) : Prop where
  sp : SpAt W B s g v d.T 0 d.top 300
  row : Rd zV W W.heap.size (some ⟨q, 0, none⟩) (backZ qs)
  len : qs.length = M
theorem AgT.below {qs : List Nat} {d : Cy} {M : Nat} {W W' : World} {B s g : Nat} {v : Value} {q : Nat} (h : AgT qs d M W B s g v q) (hb : Below W.heap.size W W') : AgT qs d M W' B s g v q := ⟨h.sp.below hb, (h.row.below hb).more hb.size, h.len⟩
/-- What the copy's words are. -/
structure AgW (qs : List Nat) (d : Cy) : Prop where
  len : d.T.length = 300
  tp : d.top ≤ 300
  obj : ∃ l2, objF d.T d.top (d.top + 1) 0 = some l2 ∧ l2.all (wellN d.T l2) = true ∧ (∀ q ∈ qs, q = 0 ∨ (1 ≤ q ∧ q - 1 ∈ l2))
  all : ∀ m2, d.top ≤ m2 → m2 ≤ 8192 → ∃ d2, copyC d.T m2 qs = some (qs, d2) ∧ d2.top = d.top ∧ d2.T.length = m2 ∧ ∀ j, j < d.top → d2.T.getD j 0#64 = d.T.getD j 0#64
  no : ∀ m2, m2 < d.top → copyC d.T m2 qs = none
section
variable {qs : List Nat} {d : Cy} {M : Nat} {W : World} {B s g q : Nat} {v : Value}
theorem ag_copy (a : AgW qs d) (h : AgT qs d M W B s g v q) (hM : M ≤ 30) (m : Nat) (hm : m ≤ 8192) : Calls Try.prog 9 #[.pointer (some ⟨s, 0, none⟩), .slice (some ⟨q, 0, none⟩) M M, .int .i64 m] W (CopyR W m M (copyC d.T m qs)) := by
  obtain ⟨l2, o1, o2, o3⟩ := a.obj
  have hlen : (backZ qs).length = M := by simp [backZ, h.len]
  have k := copy_c W B s g v d.T 0 d.top 300 h.sp (by rw [a.len]; decide) l2 o1 o2 (some ⟨q, 0, none⟩) (backZ qs) M h.row (by omega) (back_kw (by have := a.tp; omega) (fun q hq => (o3 q hq).imp id fun h => ⟨h.1, (objF_mem _ _ _ o1 _ h.2).2.1⟩)) (back_root o3) m hm
  rw [hlen, back_map] at k
  exact k
theorem ag_live (a : AgW qs d) (h : AgT qs d M W B s g v q) (hM : M ≤ 30) : Calls Try.prog 13 #[.pointer (some ⟨s, 0, none⟩), .slice (some ⟨q, 0, none⟩) M M] W (RetP (.tuple #[.int .i64 d.top, .int .i64 0]) W) := by
  obtain ⟨l2, o1, o2, o3⟩ := a.obj
  have hlen : (backZ qs).length = M := by simp [backZ, h.len]
  have k := live_c W B s g v d.T 0 d.top 300 h.sp (by rw [a.len]; decide) l2 o1 o2 (some ⟨q, 0, none⟩) (backZ qs) M h.row (by omega) (back_kw (by have := a.tp; omega) (fun q hq => (o3 q hq).imp id fun h => ⟨h.1, (objF_mem _ _ _ o1 _ h.2).2.1⟩)) (back_root o3)
  obtain ⟨d2, r1, r2, _⟩ := a.all 8192 (by have := a.tp; omega) (Nat.le_refl _)
  rw [hlen, back_map, r1] at k
  simp only [r2] at k
  exact k
theorem ag_well (a : AgW qs d) (h : AgT qs d M W B s g v q) : Calls Try.prog 14 #[.pointer (some ⟨s, 0, none⟩)] W (RetP (.int .i64 0) W) := by
  obtain ⟨l2, o1, o2, o3⟩ := a.obj
  have k := well_c W B s g v d.T 0 d.top 300 h.sp (by rw [a.len]; decide)
  rw [well_some o1, if_pos o2] at k
  exact k
theorem ag_neg (A : Option Addr) (n c : Nat) : Calls Try.prog 9 #[.pointer (some ⟨s, 0, none⟩), .slice A n c, .int .i64 (-1)] W (RetP (.tuple #[.pointer none, .slice none 0 0, .int .i64 1]) W) :=
  copy_err W _ A n c (-1) 1 (by decide) (Lib.hid (cnew_words W _ A n c (-1) (.inl (by decide)) (by unfold kW; decide)))
end
def ACopyP (w : World) (M : Nat) (r : Ending) (w' : World) : Prop :=
  (∃ E : Int, E ≠ 0 ∧ RetP (.tuple #[.pointer none, .slice none 0 0, .int .i64 E]) w r w') ∨ ∃ (qs : List Nat) (d : Cy) (s' g' : Nat) (v' : Value) (q : Nat), AgW qs d ∧ r = .returned (.tuple #[.pointer (some ⟨s', 0, none⟩), .slice (some ⟨q, 0, none⟩) M M, .int .i64 0]) ∧ AgT qs d M w' w.heap.size s' g' v' q ∧ Below w.heap.size w w'
theorem acopy_c (w : World) (B s g : Nat) (v : Value) (ws : List (BitVec 64)) (b t e : Nat) (p : SpAt w B s g v ws b t e) (hl : ws.length ≤ 250) (l : List Nat) (ho : objF ws t (t + 1) b = some l) (A : Option Addr) (roots : List Int) (c : Nat) (hr : Rd zV w w.heap.size A roots) (hrl : roots.length ≤ 30) (hrw : ∀ r ∈ roots, kW r) :
    Calls Try.prog 9 #[.pointer (some ⟨s, 0, none⟩), .slice A roots.length c, .int .i64 300] w (ACopyP w roots.length) := by
  by_cases hE : checkE ws b t roots = 0
  · obtain ⟨h1, h2⟩ := check0 ho hE
    have k := (show Calls Try.prog 9 #[.pointer (some ⟨s, 0, none⟩), .slice A roots.length c, .int .i64 ((300 : Nat) : Int)] w _ from copy_c w B s g v ws b t e p (by omega) l ho h1 A roots c hr (by omega) hrw h2 300 (by decide))
    refine k.mono ?_
    intro r w' hk
    cases hc : copyC ws 300 (roots.map rootP) with
    | none =>
      rw [hc] at hk
      exact .inl ⟨6, by decide, hk⟩
    | some z =>
      obtain ⟨qs, d⟩ := z
      rw [hc] at hk
      obtain ⟨s', g', v', q, rfl, hsp, _, how, hb⟩ := hk
      obtain ⟨l2, a1, a2, a3, a4, a5, a6, a7⟩ := again_all (heap_of ho h1 (Nat.le_trans p.te p.el) (by omega)) h1 (by decide) (roots_ps h2) hc
      have hql : qs.length = roots.length := by have := copy_len hc; rw [List.length_map] at this; exact this
      have hlen : roots.length = (backZ qs).length := by simp [backZ, hql]
      have how : Ow zV 3 w' w.heap.size (.slice (some ⟨q, 0, none⟩) roots.length roots.length) (backZ qs) := how
      have h3 : Ow zV 3 w' w.heap.size (.slice (some ⟨q, 0, none⟩) (backZ qs).length roots.length) (backZ qs) := hlen ▸ how
      exact .inr ⟨qs, d, s', g', v', q, ⟨a4, a5, ⟨l2, a1, a2, a3⟩, a6, a7⟩, rfl, ⟨hsp, h3.rd, hql⟩, hb⟩
  · exact (copy_err w _ A roots.length c 300 _ hE (Lib.hid (cnew_err w B s g v ws b t e p (by omega) A roots c hr (by omega) hrw 300 (by decide) hE))).mono fun r w' h => .inl ⟨_, hE, h⟩
theorem ca_r (Q : Exit → Act → World → Prop) (a0 : Act) (w : World) (N c1 c2 u v : Nat) (A1 A2 : Option Addr) (tp : Int) (hu : u < w.heap.size) (hv : v < w.heap.size) (cu : w.cell? ⟨u, 2, none⟩ = some (.int .i64 tp)) (cv : w.cell? ⟨v, 2, none⟩ = some (.int .i64 tp)) (hp : Hid (∀ W, Below w.heap.size w W → Calls Try.prog 12 #[.slice A1 N c1, .slice A2 N c2] W (RetP (.bool true) W))) (hq : Hid (∀ W, Below w.heap.size w W → Calls Try.prog 14 #[.pointer (some ⟨u, 0, none⟩)] W (RetP (.int .i64 0) W))) (hsz : a0.tmps.size = 154) (sl10 : a0.tmps.getD 10 undef = .pointer (some ⟨u, 0, none⟩)) (sl11 : a0.tmps.getD 11 undef = .slice A1 N c1) (sl13 : a0.tmps.getD 13 undef = .pointer (some ⟨v, 0, none⟩)) (sl14 : a0.tmps.getD 14 undef = .slice A2 N c2) (sl15 : a0.tmps.getD 15 undef = .int .i64 0) (sl16 : a0.tmps.getD 16 undef = .int .i64 tp) (sl17 : a0.tmps.getD 17 undef = .int .i64 0)
    (fin : ∀ (vals : Nat → Value) (w1 : World), Below w.heap.size w w1 → (IsV (.bool false)) (vals 33) w1 → Q .normal (putD vals [70, 71, 72, 73, 74, 75, 76, 77, 78, 79, 80, 81, 82, 83, 84, 85, 86, 87, 88, 89, 90, 91, 92, 93, 94, 95, 96, 97, 98, 99, 100, 101, 102, 103] 0 a0) w1) :
    (Code.region 13 (regIn Try.f4 13) true).wp Try.prog Q a0 w := by
  refine region_by (G := fun w w1 => Below w.heap.size w w1) [IsV (.int .i64 0),
    IsV (.int .i64 0),
    IsV (.int .i64 0),
    IsV (.bool false),
    IsV (.bool false),
    IsV (.int .i64 tp),
    IsV (.pointer (some ⟨u, 0, none⟩)),
    IsV (.pointer (some ⟨u, 0, none⟩)),
    IsV (.pointer (some ⟨u, 2, none⟩)),
    IsV (.int .i64 tp),
    IsV (.bool false),
    IsV (.bool false),
    IsV (.bool false),
    IsV (.pointer (some ⟨v, 0, none⟩)),
    IsV (.pointer (some ⟨v, 0, none⟩)),
    IsV (.pointer (some ⟨v, 2, none⟩)),
    IsV (.int .i64 tp),
    IsV (.pointer (some ⟨u, 0, none⟩)),
    IsV (.pointer (some ⟨u, 0, none⟩)),
    IsV (.pointer (some ⟨u, 2, none⟩)),
    IsV (.int .i64 tp),
    IsV (.bool false),
    IsV (.bool false),
    IsV (.bool false),
    IsV (.slice A1 N c1),
    IsV (.slice A2 N c2),
    IsV (.bool true),
    IsV (.bool false),
    IsV (.bool false),
    IsV (.bool false),
    IsV (.pointer (some ⟨u, 0, none⟩)),
    IsV (.int .i64 0),
    IsV (.bool false),
    IsV (.bool false)]
    [70, 71, 72, 73, 74, 75, 76, 77, 78, 79, 80, 81, 82, 83, 84, 85, 86, 87, 88, 89, 90, 91, 92, 93, 94, 95, 96, 97, 98, 99, 100, 101, 102, 103] (by kernel_rfl) (Gw.drew _) Gw.trans (by rw [hsz]; kernel_rfl) (by kernel_rfl) ?_ ?_ ?_
  · intro f hf
    simp only [List.mem_cons, List.not_mem_nil, or_false] at hf
    rcases hf with rfl | rfl | rfl | rfl | rfl | rfl | rfl | rfl | rfl | rfl | rfl | rfl | rfl | rfl | rfl | rfl | rfl | rfl | rfl | rfl | rfl | rfl | rfl | rfl | rfl | rfl | rfl | rfl | rfl | rfl | rfl | rfl | rfl | rfl <;> intro v a b h g <;> first | exact IsV.mono h
  · refine ⟨?_, ?_, ?_, ?_, ?_, ?_, ?_, ?_, ?_, ?_, ?_, ?_, ?_, ?_, ?_, ?_, ?_, ?_, ?_, ?_, ?_, ?_, ?_, ?_, ?_, ?_, ?_, ?_, ?_, ?_, ?_, ?_, ?_, ?_, trivial⟩
    · exact owes_mv 15 (by kernel_rfl) (by kernel_rfl) (by kernel_rfl) sl15 (fun _ => rfl)
    · exact owes_mv 17 (by kernel_rfl) (by kernel_rfl) (by kernel_rfl) sl17 (fun _ => rfl)
    · refine owes_v (Go.Op.binOp Go.BinOp.add 3 (Go.Operand.tmp 70) (Go.Operand.tmp 71) 3) 3 [0, 1] (by kernel_rfl) (by kernel_rfl) (by kernel_rfl) rfl fun vals w1 ρ hG hF hρ hcst hfun => ?_
      have e70 : ρ (.tmp 70) = .int .i64 0 := ((hρ 70).trans (slotJ [0, 1] (by rw [hsz]; decide) (by kernel_rfl))).trans (hF 0 (by decide))
      have e71 : ρ (.tmp 71) = .int .i64 0 := ((hρ 71).trans (slotJ [0, 1] (by rw [hsz]; decide) (by kernel_rfl))).trans (hF 1 (by decide))
      clear hρ hF hcst hfun sl10 sl11 sl13 sl14 sl15 sl16 sl17 fin
      exact opv_val (by go_simp <;> rfl) ⟨gw_self _, rfl⟩
    · refine owes_v (Go.Op.binOp Go.BinOp.neq 3 (Go.Operand.tmp 72) (Go.Operand.const (Go.Value.int Go.IntKind.i64 0)) 3) 4 [2] (by kernel_rfl) (by kernel_rfl) (by kernel_rfl) rfl fun vals w1 ρ hG hF hρ hcst hfun => ?_
      have e72 : ρ (.tmp 72) = .int .i64 0 := ((hρ 72).trans (slotJ [2] (by rw [hsz]; decide) (by kernel_rfl))).trans (hF 2 (by decide))
      clear hρ hF hfun sl10 sl11 sl13 sl14 sl15 sl16 sl17 fin
      exact opv_val (by go_simp <;> rfl) ⟨gw_self _, rfl⟩
    · exact owes_mvj 3 73 (by kernel_rfl) (by kernel_rfl) (by kernel_rfl) (by kernel_rfl) (by rw [hsz]; decide) (fun v w h => h)
    · refine owes_vt 4 false (Go.Op.move (Go.Operand.tmp 16)) 3 [] (by kernel_rfl) (by kernel_rfl) (by kernel_rfl) (fun _ _ h => h) (by rw [hsz]; kernel_rfl) (by kernel_rfl) rfl fun vals w1 ρ hG hF hρ hcst hfun => ?_
      have e16 : ρ (.tmp 16) = .int .i64 tp := ((hρ 16).trans (slotO [] (by kernel_rfl))).trans sl16
      clear hρ hF hcst hfun sl10 sl11 sl13 sl14 sl15 sl16 sl17 fin
      exact opv_val (by go_simp <;> rfl) ⟨gw_self _, rfl⟩
    · refine owes_vt 4 false (Go.Op.move (Go.Operand.tmp 10)) 25 [] (by kernel_rfl) (by kernel_rfl) (by kernel_rfl) (fun _ _ h => h) (by rw [hsz]; kernel_rfl) (by kernel_rfl) rfl fun vals w1 ρ hG hF hρ hcst hfun => ?_
      have e10 : ρ (.tmp 10) = .pointer (some ⟨u, 0, none⟩) := ((hρ 10).trans (slotO [] (by kernel_rfl))).trans sl10
      clear hρ hF hcst hfun sl10 sl11 sl13 sl14 sl15 sl16 sl17 fin
      exact opv_val (by go_simp <;> rfl) ⟨gw_self _, rfl⟩
    · refine owes_vt 4 false (Go.Op.nilCheck (Go.Operand.tmp 76)) 0 [6] (by kernel_rfl) (by kernel_rfl) (by kernel_rfl) (fun _ _ h => h) (by rw [hsz]; kernel_rfl) (by kernel_rfl) rfl fun vals w1 ρ hG hF hρ hcst hfun => ?_
      have e76 : ρ (.tmp 76) = .pointer (some ⟨u, 0, none⟩) := ((hρ 76).trans (slotJ [6] (by rw [hsz]; decide) (by kernel_rfl))).trans (hF 6 (by decide))
      clear hρ hF hcst hfun sl10 sl11 sl13 sl14 sl15 sl16 sl17 fin
      exact opv_val (by go_simp <;> rfl) ⟨gw_self _, rfl⟩
    · refine owes_vt 4 false (Go.Op.fieldAddr 42 (Go.Operand.tmp 77) 2) 0 [7] (by kernel_rfl) (by kernel_rfl) (by kernel_rfl) (fun _ _ h => h) (by rw [hsz]; kernel_rfl) (by kernel_rfl) rfl fun vals w1 ρ hG hF hρ hcst hfun => ?_
      have e77 : ρ (.tmp 77) = .pointer (some ⟨u, 0, none⟩) := ((hρ 77).trans (slotJ [7] (by rw [hsz]; decide) (by kernel_rfl))).trans (hF 7 (by decide))
      clear hρ hF hcst hfun sl10 sl11 sl13 sl14 sl15 sl16 sl17 fin
      exact opv_val (by go_simp <;> rfl) ⟨gw_self _, rfl⟩
    · refine owes_vt 4 false (Go.Op.load 3 (Go.Operand.tmp 78)) 3 [8] (by kernel_rfl) (by kernel_rfl) (by kernel_rfl) (fun _ _ h => h) (by rw [hsz]; kernel_rfl) (by kernel_rfl) rfl fun vals w1 ρ hG hF hρ hcst hfun => ?_
      have e78 : ρ (.tmp 78) = .pointer (some ⟨u, 2, none⟩) := ((hρ 78).trans (slotJ [8] (by rw [hsz]; decide) (by kernel_rfl))).trans (hF 8 (by decide))
      have k := (hG.cell (p := ⟨u, 2, none⟩) hu).trans cu
      clear hρ hF hcst hfun sl10 sl11 sl13 sl14 sl15 sl16 sl17 fin
      exact opv_val (by go_simp <;> rfl) ⟨gw_self _, rfl⟩
    · refine owes_vt 4 false (Go.Op.binOp Go.BinOp.neq 3 (Go.Operand.tmp 75) (Go.Operand.tmp 79) 3) 4 [5, 9] (by kernel_rfl) (by kernel_rfl) (by kernel_rfl) (fun _ _ h => h) (by rw [hsz]; kernel_rfl) (by kernel_rfl) rfl fun vals w1 ρ hG hF hρ hcst hfun => ?_
      have e75 : ρ (.tmp 75) = .int .i64 tp := ((hρ 75).trans (slotJ [5, 9] (by rw [hsz]; decide) (by kernel_rfl))).trans (hF 5 (by decide))
      have e79 : ρ (.tmp 79) = .int .i64 tp := ((hρ 79).trans (slotJ [5, 9] (by rw [hsz]; decide) (by kernel_rfl))).trans (hF 9 (by decide))
      clear hρ hF hcst hfun sl10 sl11 sl13 sl14 sl15 sl16 sl17 fin
      exact opv_val (by go_simp <;> rfl) ⟨gw_self _, rfl⟩
    · refine owes_v (Go.Op.pick (Go.Operand.tmp 74) (Go.Operand.const (Go.Value.bool true)) (Go.Operand.tmp 80)) 4 [4, 10] (by kernel_rfl) (by kernel_rfl) (by kernel_rfl) rfl fun vals w1 ρ hG hF hρ hcst hfun => ?_
      have e74 : ρ (.tmp 74) = .bool false := ((hρ 74).trans (slotJ [4, 10] (by rw [hsz]; decide) (by kernel_rfl))).trans (hF 4 (by decide))
      have e80 : ρ (.tmp 80) = .bool false := ((hρ 80).trans (slotJ [4, 10] (by rw [hsz]; decide) (by kernel_rfl))).trans (hF 10 (by decide))
      clear hρ hF hfun sl10 sl11 sl13 sl14 sl15 sl16 sl17 fin
      exact opv_val (by go_simp <;> rfl) ⟨gw_self _, rfl⟩
    · exact owes_mvj 11 81 (by kernel_rfl) (by kernel_rfl) (by kernel_rfl) (by kernel_rfl) (by rw [hsz]; decide) (fun v w h => h)
    · refine owes_vt 12 false (Go.Op.move (Go.Operand.tmp 13)) 25 [] (by kernel_rfl) (by kernel_rfl) (by kernel_rfl) (fun _ _ h => h) (by rw [hsz]; kernel_rfl) (by kernel_rfl) rfl fun vals w1 ρ hG hF hρ hcst hfun => ?_
      have e13 : ρ (.tmp 13) = .pointer (some ⟨v, 0, none⟩) := ((hρ 13).trans (slotO [] (by kernel_rfl))).trans sl13
      clear hρ hF hcst hfun sl10 sl11 sl13 sl14 sl15 sl16 sl17 fin
      exact opv_val (by go_simp <;> rfl) ⟨gw_self _, rfl⟩
    · refine owes_vt 12 false (Go.Op.nilCheck (Go.Operand.tmp 83)) 0 [13] (by kernel_rfl) (by kernel_rfl) (by kernel_rfl) (fun _ _ h => h) (by rw [hsz]; kernel_rfl) (by kernel_rfl) rfl fun vals w1 ρ hG hF hρ hcst hfun => ?_
      have e83 : ρ (.tmp 83) = .pointer (some ⟨v, 0, none⟩) := ((hρ 83).trans (slotJ [13] (by rw [hsz]; decide) (by kernel_rfl))).trans (hF 13 (by decide))
      clear hρ hF hcst hfun sl10 sl11 sl13 sl14 sl15 sl16 sl17 fin
      exact opv_val (by go_simp <;> rfl) ⟨gw_self _, rfl⟩
    · refine owes_vt 12 false (Go.Op.fieldAddr 42 (Go.Operand.tmp 84) 2) 0 [14] (by kernel_rfl) (by kernel_rfl) (by kernel_rfl) (fun _ _ h => h) (by rw [hsz]; kernel_rfl) (by kernel_rfl) rfl fun vals w1 ρ hG hF hρ hcst hfun => ?_
      have e84 : ρ (.tmp 84) = .pointer (some ⟨v, 0, none⟩) := ((hρ 84).trans (slotJ [14] (by rw [hsz]; decide) (by kernel_rfl))).trans (hF 14 (by decide))
      clear hρ hF hcst hfun sl10 sl11 sl13 sl14 sl15 sl16 sl17 fin
      exact opv_val (by go_simp <;> rfl) ⟨gw_self _, rfl⟩
    · refine owes_vt 12 false (Go.Op.load 3 (Go.Operand.tmp 85)) 3 [15] (by kernel_rfl) (by kernel_rfl) (by kernel_rfl) (fun _ _ h => h) (by rw [hsz]; kernel_rfl) (by kernel_rfl) rfl fun vals w1 ρ hG hF hρ hcst hfun => ?_
      have e85 : ρ (.tmp 85) = .pointer (some ⟨v, 2, none⟩) := ((hρ 85).trans (slotJ [15] (by rw [hsz]; decide) (by kernel_rfl))).trans (hF 15 (by decide))
      have k := (hG.cell (p := ⟨v, 2, none⟩) hv).trans cv
      clear hρ hF hcst hfun sl10 sl11 sl13 sl14 sl15 sl16 sl17 fin
      exact opv_val (by go_simp <;> rfl) ⟨gw_self _, rfl⟩
    · refine owes_vt 12 false (Go.Op.move (Go.Operand.tmp 10)) 25 [] (by kernel_rfl) (by kernel_rfl) (by kernel_rfl) (fun _ _ h => h) (by rw [hsz]; kernel_rfl) (by kernel_rfl) rfl fun vals w1 ρ hG hF hρ hcst hfun => ?_
      have e10 : ρ (.tmp 10) = .pointer (some ⟨u, 0, none⟩) := ((hρ 10).trans (slotO [] (by kernel_rfl))).trans sl10
      clear hρ hF hcst hfun sl10 sl11 sl13 sl14 sl15 sl16 sl17 fin
      exact opv_val (by go_simp <;> rfl) ⟨gw_self _, rfl⟩
    · refine owes_vt 12 false (Go.Op.nilCheck (Go.Operand.tmp 87)) 0 [17] (by kernel_rfl) (by kernel_rfl) (by kernel_rfl) (fun _ _ h => h) (by rw [hsz]; kernel_rfl) (by kernel_rfl) rfl fun vals w1 ρ hG hF hρ hcst hfun => ?_
      have e87 : ρ (.tmp 87) = .pointer (some ⟨u, 0, none⟩) := ((hρ 87).trans (slotJ [17] (by rw [hsz]; decide) (by kernel_rfl))).trans (hF 17 (by decide))
      clear hρ hF hcst hfun sl10 sl11 sl13 sl14 sl15 sl16 sl17 fin
      exact opv_val (by go_simp <;> rfl) ⟨gw_self _, rfl⟩
    · refine owes_vt 12 false (Go.Op.fieldAddr 42 (Go.Operand.tmp 88) 2) 0 [18] (by kernel_rfl) (by kernel_rfl) (by kernel_rfl) (fun _ _ h => h) (by rw [hsz]; kernel_rfl) (by kernel_rfl) rfl fun vals w1 ρ hG hF hρ hcst hfun => ?_
      have e88 : ρ (.tmp 88) = .pointer (some ⟨u, 0, none⟩) := ((hρ 88).trans (slotJ [18] (by rw [hsz]; decide) (by kernel_rfl))).trans (hF 18 (by decide))
      clear hρ hF hcst hfun sl10 sl11 sl13 sl14 sl15 sl16 sl17 fin
      exact opv_val (by go_simp <;> rfl) ⟨gw_self _, rfl⟩
    · refine owes_vt 12 false (Go.Op.load 3 (Go.Operand.tmp 89)) 3 [19] (by kernel_rfl) (by kernel_rfl) (by kernel_rfl) (fun _ _ h => h) (by rw [hsz]; kernel_rfl) (by kernel_rfl) rfl fun vals w1 ρ hG hF hρ hcst hfun => ?_
      have e89 : ρ (.tmp 89) = .pointer (some ⟨u, 2, none⟩) := ((hρ 89).trans (slotJ [19] (by rw [hsz]; decide) (by kernel_rfl))).trans (hF 19 (by decide))
      have k := (hG.cell (p := ⟨u, 2, none⟩) hu).trans cu
      clear hρ hF hcst hfun sl10 sl11 sl13 sl14 sl15 sl16 sl17 fin
      exact opv_val (by go_simp <;> rfl) ⟨gw_self _, rfl⟩
    · refine owes_vt 12 false (Go.Op.binOp Go.BinOp.neq 3 (Go.Operand.tmp 86) (Go.Operand.tmp 90) 3) 4 [16, 20] (by kernel_rfl) (by kernel_rfl) (by kernel_rfl) (fun _ _ h => h) (by rw [hsz]; kernel_rfl) (by kernel_rfl) rfl fun vals w1 ρ hG hF hρ hcst hfun => ?_
      have e86 : ρ (.tmp 86) = .int .i64 tp := ((hρ 86).trans (slotJ [16, 20] (by rw [hsz]; decide) (by kernel_rfl))).trans (hF 16 (by decide))
      have e90 : ρ (.tmp 90) = .int .i64 tp := ((hρ 90).trans (slotJ [16, 20] (by rw [hsz]; decide) (by kernel_rfl))).trans (hF 20 (by decide))
      clear hρ hF hcst hfun sl10 sl11 sl13 sl14 sl15 sl16 sl17 fin
      exact opv_val (by go_simp <;> rfl) ⟨gw_self _, rfl⟩
    · refine owes_v (Go.Op.pick (Go.Operand.tmp 82) (Go.Operand.const (Go.Value.bool true)) (Go.Operand.tmp 91)) 4 [12, 21] (by kernel_rfl) (by kernel_rfl) (by kernel_rfl) rfl fun vals w1 ρ hG hF hρ hcst hfun => ?_
      have e82 : ρ (.tmp 82) = .bool false := ((hρ 82).trans (slotJ [12, 21] (by rw [hsz]; decide) (by kernel_rfl))).trans (hF 12 (by decide))
      have e91 : ρ (.tmp 91) = .bool false := ((hρ 91).trans (slotJ [12, 21] (by rw [hsz]; decide) (by kernel_rfl))).trans (hF 21 (by decide))
      clear hρ hF hfun sl10 sl11 sl13 sl14 sl15 sl16 sl17 fin
      exact opv_val (by go_simp <;> rfl) ⟨gw_self _, rfl⟩
    · exact owes_mvj 22 92 (by kernel_rfl) (by kernel_rfl) (by kernel_rfl) (by kernel_rfl) (by rw [hsz]; decide) (fun v w h => h)
    · refine owes_vt 23 false (Go.Op.move (Go.Operand.tmp 11)) 23 [] (by kernel_rfl) (by kernel_rfl) (by kernel_rfl) (fun _ _ h => h) (by rw [hsz]; kernel_rfl) (by kernel_rfl) rfl fun vals w1 ρ hG hF hρ hcst hfun => ?_
      have e11 : ρ (.tmp 11) = .slice A1 N c1 := ((hρ 11).trans (slotO [] (by kernel_rfl))).trans sl11
      clear hρ hF hcst hfun sl10 sl11 sl13 sl14 sl15 sl16 sl17 fin
      exact opv_val (by go_simp <;> rfl) ⟨gw_self _, rfl⟩
    · refine owes_vt 23 false (Go.Op.move (Go.Operand.tmp 14)) 23 [] (by kernel_rfl) (by kernel_rfl) (by kernel_rfl) (fun _ _ h => h) (by rw [hsz]; kernel_rfl) (by kernel_rfl) rfl fun vals w1 ρ hG hF hρ hcst hfun => ?_
      have e14 : ρ (.tmp 14) = .slice A2 N c2 := ((hρ 14).trans (slotO [] (by kernel_rfl))).trans sl14
      clear hρ hF hcst hfun sl10 sl11 sl13 sl14 sl15 sl16 sl17 fin
      exact opv_val (by go_simp <;> rfl) ⟨gw_self _, rfl⟩
    · refine owes_vt 23 false (Go.Op.call { callee := Go.Callee.value (Go.Operand.func 12), args := #[Go.Operand.tmp 94, Go.Operand.tmp 95], argTypes := #[23, 23] }) 4 [24, 25] (by kernel_rfl) (by kernel_rfl) (by kernel_rfl) (fun _ _ h => h) (by rw [hsz]; kernel_rfl) (by kernel_rfl) rfl fun vals w1 ρ hG hF hρ hcst hfun => ?_
      have e94 : ρ (.tmp 94) = .slice A1 N c1 := ((hρ 94).trans (slotJ [24, 25] (by rw [hsz]; decide) (by kernel_rfl))).trans (hF 24 (by decide))
      have e95 : ρ (.tmp 95) = .slice A2 N c2 := ((hρ 95).trans (slotJ [24, 25] (by rw [hsz]; decide) (by kernel_rfl))).trans (hF 25 (by decide))
      clear hρ hF hcst sl10 sl11 sl13 sl14 sl15 sl16 sl17 fin
      exact opv_enter (by go_simp <;> rfl) (of_ret (hp.out w1 hG))
    · refine owes_vt 23 false (Go.Op.unOp Go.UnOp.not 4 (Go.Operand.tmp 96)) 4 [26] (by kernel_rfl) (by kernel_rfl) (by kernel_rfl) (fun _ _ h => h) (by rw [hsz]; kernel_rfl) (by kernel_rfl) rfl fun vals w1 ρ hG hF hρ hcst hfun => ?_
      have e96 : ρ (.tmp 96) = .bool true := ((hρ 96).trans (slotJ [26] (by rw [hsz]; decide) (by kernel_rfl))).trans (hF 26 (by decide))
      clear hρ hF hcst hfun sl10 sl11 sl13 sl14 sl15 sl16 sl17 fin
      exact opv_val (by go_simp <;> rfl) ⟨gw_self _, rfl⟩
    · refine owes_v (Go.Op.pick (Go.Operand.tmp 93) (Go.Operand.const (Go.Value.bool true)) (Go.Operand.tmp 97)) 4 [23, 27] (by kernel_rfl) (by kernel_rfl) (by kernel_rfl) rfl fun vals w1 ρ hG hF hρ hcst hfun => ?_
      have e93 : ρ (.tmp 93) = .bool false := ((hρ 93).trans (slotJ [23, 27] (by rw [hsz]; decide) (by kernel_rfl))).trans (hF 23 (by decide))
      have e97 : ρ (.tmp 97) = .bool false := ((hρ 97).trans (slotJ [23, 27] (by rw [hsz]; decide) (by kernel_rfl))).trans (hF 27 (by decide))
      clear hρ hF hfun sl10 sl11 sl13 sl14 sl15 sl16 sl17 fin
      exact opv_val (by go_simp <;> rfl) ⟨gw_self _, rfl⟩
    · exact owes_mvj 28 98 (by kernel_rfl) (by kernel_rfl) (by kernel_rfl) (by kernel_rfl) (by rw [hsz]; decide) (fun v w h => h)
    · refine owes_vt 29 false (Go.Op.move (Go.Operand.tmp 10)) 25 [] (by kernel_rfl) (by kernel_rfl) (by kernel_rfl) (fun _ _ h => h) (by rw [hsz]; kernel_rfl) (by kernel_rfl) rfl fun vals w1 ρ hG hF hρ hcst hfun => ?_
      have e10 : ρ (.tmp 10) = .pointer (some ⟨u, 0, none⟩) := ((hρ 10).trans (slotO [] (by kernel_rfl))).trans sl10
      clear hρ hF hcst hfun sl10 sl11 sl13 sl14 sl15 sl16 sl17 fin
      exact opv_val (by go_simp <;> rfl) ⟨gw_self _, rfl⟩
    · refine owes_vt 29 false (Go.Op.call { callee := Go.Callee.value (Go.Operand.func 14), args := #[Go.Operand.tmp 100], argTypes := #[25] }) 30 [30] (by kernel_rfl) (by kernel_rfl) (by kernel_rfl) (fun _ _ h => h) (by rw [hsz]; kernel_rfl) (by kernel_rfl) rfl fun vals w1 ρ hG hF hρ hcst hfun => ?_
      have e100 : ρ (.tmp 100) = .pointer (some ⟨u, 0, none⟩) := ((hρ 100).trans (slotJ [30] (by rw [hsz]; decide) (by kernel_rfl))).trans (hF 30 (by decide))
      clear hρ hF hcst sl10 sl11 sl13 sl14 sl15 sl16 sl17 fin
      exact opv_enter (by go_simp <;> rfl) (of_ret (hq.out w1 hG))
    · refine owes_vt 29 false (Go.Op.binOp Go.BinOp.neq 3 (Go.Operand.tmp 101) (Go.Operand.const (Go.Value.int Go.IntKind.i64 0)) 3) 4 [31] (by kernel_rfl) (by kernel_rfl) (by kernel_rfl) (fun _ _ h => h) (by rw [hsz]; kernel_rfl) (by kernel_rfl) rfl fun vals w1 ρ hG hF hρ hcst hfun => ?_
      have e101 : ρ (.tmp 101) = .int .i64 0 := ((hρ 101).trans (slotJ [31] (by rw [hsz]; decide) (by kernel_rfl))).trans (hF 31 (by decide))
      clear hρ hF hfun sl10 sl11 sl13 sl14 sl15 sl16 sl17 fin
      exact opv_val (by go_simp <;> rfl) ⟨gw_self _, rfl⟩
    · refine owes_v (Go.Op.pick (Go.Operand.tmp 99) (Go.Operand.const (Go.Value.bool true)) (Go.Operand.tmp 102)) 4 [29, 32] (by kernel_rfl) (by kernel_rfl) (by kernel_rfl) rfl fun vals w1 ρ hG hF hρ hcst hfun => ?_
      have e99 : ρ (.tmp 99) = .bool false := ((hρ 99).trans (slotJ [29, 32] (by rw [hsz]; decide) (by kernel_rfl))).trans (hF 29 (by decide))
      have e102 : ρ (.tmp 102) = .bool false := ((hρ 102).trans (slotJ [29, 32] (by rw [hsz]; decide) (by kernel_rfl))).trans (hF 32 (by decide))
      clear hρ hF hfun sl10 sl11 sl13 sl14 sl15 sl16 sl17 fin
      exact opv_val (by go_simp <;> rfl) ⟨gw_self _, rfl⟩
  · intro vals w1 hG hF
    exact fin vals w1 hG (hF 33 (by decide +kernel))
theorem again_walk (w : World) (A : Option Addr) (ws : List (BitVec 64)) (c : Nat) (_g : ws.length ≤ c) (_m : c ≤ maxLen) (hr : Rd u64v w w.heap.size A ws) (b : Int) (_w1 : (Lit.int .i64 b).wf = true) (t : Int) (_w2 : (Lit.int .i64 t).wf = true) (A2 : Option Addr) (roots : List Int) (c2 : Nat) (_g2 : roots.length ≤ c2) (_m2 : c2 ≤ maxLen) (hr2 : Rd inV w w.heap.size A2 roots ∧ ∀ x ∈ roots, (Lit.int .i64 x).wf = true) :
    Calls Try.prog 4 #[.slice A ws.length c, .int .i64 b, .int .i64 t, .slice A2 roots.length c2] w (RetP (.bool true) w) := by
  have HK := Lib.hid (known21_c w)
  have HR := Lib.hid hr
  have HR2 := Lib.hid (show Rd zV w w.heap.size A2 roots ∧ ∀ x ∈ roots, kW x from hr2)
  obtain ⟨N, hN⟩ : ∃ N, N = ws.length := ⟨_, rfl⟩
  obtain ⟨M, hM⟩ : ∃ N, N = roots.length := ⟨_, rfl⟩
  have hNm : (N : Int) ≤ 9223372036854775807 := by have h1 := _g; have h2 := _m; simp [maxLen] at h2; omega
  have hMm : (M : Int) ≤ 9223372036854775807 := by have h1 := _g2; have h2 := _m2; simp [maxLen] at h2; omega
  clear _g _m hr _w1 _w2 _g2 _m2 hr2
  by_cases hl : 250 < N ∨ 30 < M
  · rw [← hN, ← hM]
    clear hN hM
    have t1 : ¬ ((N : Int) ≤ 250 ∧ (M : Int) ≤ 30) := by omega
    go_enter Try.func4, Try.ntmps4
    go_wp2_with fail
    refine Calls.mono HK.out ?_
    rintro r w1 ⟨rfl, b1⟩
    have HB1 := Lib.hid b1
    clear b1
    by_cases q1 : (250 : Int) < (N : Int)
    · go_wp2_with fail
      go_ret
      exact ⟨rfl, HB1.out⟩
    · have q2 : (30 : Int) < (M : Int) := by omega
      go_wp2_with fail
      go_ret
      exact ⟨rfl, HB1.out⟩
  have q1 : ¬ (250 : Int) < (N : Int) := by omega
  have q2 : ¬ (30 : Int) < (M : Int) := by omega
  have HTo := Lib.hid (fun W hr => to_c W A ws c hr (by omega) b t (ws.length : Int))
  have HCp := Lib.hid (fun W B s g v b t e (p : SpAt W B s g v ws b t e) l ho (hr : Rd zV W W.heap.size A2 roots) => acopy_c W B s g v ws b t e p (by omega) l ho A2 roots c2 hr (by omega) HR2.out.2)
  have hM30 : M ≤ 30 := by omega
  rw [← hN] at HTo ⊢
  rw [← hM] at HCp ⊢
  clear hN hM hl hNm hMm
  go_enter Try.func4, Try.ntmps4
  go_wp2_with fail
  refine Calls.mono HK.out ?_
  rintro r w1 ⟨rfl, b1⟩
  have HB1 := Lib.hid b1
  clear b1
  go_wp2_with fail
  refine Calls.mono (HTo.out w1 ((HR.out.below HB1.out).more HB1.out.size)) ?_
  rintro r w2 (⟨rfl, b2⟩ | ⟨B, T, E, s, g, v, l, rfl, rfl, hE, hBT, hTE, hEl, hob, rfl, hsp, b2⟩)
  · have HB2 := Lib.hid (HB1.out.trans (b2.mono HB1.out.size))
    clear b2
    go_wp2_with fail
    go_ret
    exact ⟨rfl, HB2.out⟩
  · have HB2 := Lib.hid (HB1.out.trans (b2.mono HB1.out.size))
    have HCp2 := Lib.hid (HCp.out w2 w1.heap.size s g v B T E hsp l hob ((HR2.out.1.below HB2.out).more HB2.out.size))
    clear b2 hsp hE hBT hTE hEl hob HTo HK HB1 HCp
    go_wp2_with fail
    refine Calls.mono HCp2.out ?_
    rintro r w3 (⟨er, hne, rfl, b3⟩ | ⟨qs, d, st, gt, vt, q, ha, rfl, ht, b3⟩)
    · have HB3 := Lib.hid (HB2.out.trans (b3.mono HB2.out.size))
      clear b3
      go_wp2_with fail
      go_ret
      exact ⟨rfl, HB3.out⟩
    · have HB3 := Lib.hid (HB2.out.trans (b3.mono HB2.out.size))
      have HA := Lib.hid ha
      have HT := Lib.hid ht
      have ct := ht.sp.four.2.2.1
      have hst := ht.sp.blk.lt
      obtain ⟨tp, htp⟩ : ∃ tp, tp = d.top := ⟨_, rfl⟩
      have k2 := ag_copy ha ht hM30 d.top (by have := ha.tp; omega)
      obtain ⟨d2, r1, r2, r3, r4⟩ := ha.all d.top (Nat.le_refl _) (by have := ha.tp; omega)
      rw [r1, ← htp] at k2
      rw [← htp] at ct
      have HC2 := Lib.hid (show Calls Try.prog 9 #[.pointer (some ⟨st, 0, none⟩), .slice (some ⟨q, 0, none⟩) M M, .int .i64 tp] w3 (fun r w' => ∃ s' g' v' q', r = .returned (.tuple #[.pointer (some ⟨s', 0, none⟩), .slice (some ⟨q', 0, none⟩) M M, .int .i64 0]) ∧ SpAt w' w3.heap.size s' g' v' d2.T 0 d2.top tp ∧ d2.T.length = tp ∧ Ow zV 3 w' w3.heap.size (.slice (some ⟨q', 0, none⟩) M M) (backZ qs) ∧ Below w3.heap.size w3 w') from k2)
      have HD := Lib.hid (And.intro htp (And.intro r2 (And.intro r3 r4)))
      have htp3 : (tp : Int) ≤ 300 := by have := ha.tp; omega
      clear b3 ha ht k2 r1 r2 r3 r4 htp
      go_wp2_with fail
      refine Calls.mono HC2.out ?_
      rintro r w4 ⟨su, gu, vu, q', rfl, hsu, _, how, b4⟩
      have HU := Lib.hid (And.intro hsu (And.intro how b4))
      have HT4 := Lib.hid (HT.out.below b4)
      have HLv := Lib.hid (HD.out.1.symm ▸ ag_live HA.out HT4.out hM30 : Calls Try.prog 13 #[.pointer (some ⟨st, 0, none⟩), .slice (some ⟨q, 0, none⟩) M M] w4 (RetP (.tuple #[.int .i64 tp, .int .i64 0]) w4))
      clear hsu how b4 ct hst HC2
      go_wp2_with fail
      refine Calls.mono HLv.out ?_
      rintro r w5 ⟨rfl, b5⟩
      have hT5 := HT4.out.below b5
      have hU5 := HU.out.1.below b5
      have hbl : M = (backZ qs).length := by simp [backZ, HT.out.len]
      have hrq : Rd zV w5 w5.heap.size (some ⟨q', 0, none⟩) (backZ qs) := by
        have h3 : Ow zV 3 w4 w3.heap.size (.slice (some ⟨q', 0, none⟩) (backZ qs).length M) (backZ qs) := hbl ▸ HU.out.2.1
        exact (h3.rd.below b5).more b5.size
      have cu := hT5.sp.four.2.2.1
      have cv := hU5.four.2.2.1
      rw [← HD.out.1] at cu
      rw [HD.out.2.1, ← HD.out.1] at cv
      have hu := hT5.sp.blk.lt
      have hv := hU5.blk.lt
      have HIn := Lib.hid (fun W (hb : Below w5.heap.size w5 W) => ints_z W (some ⟨q, 0, none⟩) (some ⟨q', 0, none⟩) M M M (backZ qs) hbl (by omega) ((hT5.row.below hb).more hb.size) ((hrq.below hb).more hb.size))
      have HWl := Lib.hid (fun W (hb : Below w5.heap.size w5 W) => ag_well HA.out (hT5.below hb))
      have h35 : Below w3.heap.size w3 w5 := HU.out.2.2.trans (b5.mono HU.out.2.2.size)
      have H5 := Lib.hid (And.intro hT5 (And.intro hU5 (HB3.out.trans (h35.mono HB3.out.size))))
      clear hT5 hU5 hrq b5 h35 hbl HLv
      go_wp2_with fail
      refine ca_r _ _ _ M M M st su (some ⟨q, 0, none⟩) (some ⟨q', 0, none⟩) tp hu hv cu cv HIn HWl rfl ?_ ?_ ?_ ?_ ?_ ?_ ?_ ?_
      · rfl
      · rfl
      · rfl
      · rfl
      · rfl
      · rfl
      · rfl
      intro vals w9 hG h103
      unfold IsV at h103
      simp only [putD, Act.put, List.setIfInBounds_toArray, List.set_cons_zero, List.set_cons_succ, h103]
      have H9 := Lib.hid hG
      have HBz := Lib.hid (Below.refl w9.heap.size w9)
      clear hG h103 cu cv hu hv
      go_wp2_with fail
      go_loopw [18] (fun x W => ∃ i : Nat, x = .int .i64 i ∧ i ≤ tp ∧ Hid (Below w9.heap.size w9 W)) (fun x _ => tp - (Go.RowKit.intOf x).toNat)
      case atStart => exact ⟨0, rfl, Nat.zero_le _, HBz⟩
      case round =>
        obtain ⟨j, rfl, hj, hS⟩ := hrel
        have hb := H9.out.trans (hS.out.mono H9.out.size)
        have hu2 := H5.out.1.below hb
        have hv2 := H5.out.2.1.below hb
        obtain ⟨cu0, _, cu2, _⟩ := hu2.sp.four
        obtain ⟨cv0, _, cv2, _⟩ := hv2.four
        rw [HD.out.2.1, ← HD.out.1] at cv2
        rw [← HD.out.1] at cu2
        by_cases hlt : (j : Int) < (tp : Int)
        · have hjt : j < tp := by omega
          have hj1 : j < d.T.length := by have := HA.out.len; omega
          have hj2 : j < d2.T.length := by rw [HD.out.2.2.1, ← HD.out.1]; exact hjt
          have HG1 := Lib.hid (get_in wr _ gu vu d2.T j hj2 (by rw [HD.out.2.2.1, ← HD.out.1]; omega) hv2.mem)
          have HG2 := Lib.hid (get_in wr _ gt vt d.T j hj1 (by have := HA.out.len; omega) hu2.sp.mem)
          have hw : d2.T[j] = d.T[j] := by
            have h := HD.out.2.2.2 j (by rw [← HD.out.1]; exact hjt)
            rw [List.getD_eq_getElem?_getD, List.getD_eq_getElem?_getD, List.getElem?_eq_getElem hj1, List.getElem?_eq_getElem hj2] at h
            exact h
          rw [hw] at HG1
          obtain ⟨xv, hxv⟩ : ∃ xv, xv = U64 d.T[j] := ⟨_, rfl⟩
          rw [← hxv] at HG1 HG2
          clear hxv hj1 hj2 hjt hb hu2 hv2 hw cu2
          go_wp2_with fail
          refine Calls.mono HG1.out ?_
          rintro r w10 ⟨rfl, hw10⟩
          subst hw10
          go_wp2_with fail
          refine Calls.mono HG2.out ?_
          rintro r w10 ⟨rfl, hw10⟩
          subst hw10
          go_wp2_with fail
          go_roundw
          case rel => first | exact ⟨j + 1, by go_num, by omega, hS⟩ | ((repeat apply Exists.intro); refine ⟨?_, rfl⟩; exact ⟨j + 1, by go_num, by omega, hS⟩)
          case measure => simp [Go.RowKit.intOf]; omega
        · have HTr := Lib.hid hu2
          have HB5 := Lib.hid (H5.out.2.2.trans (hb.mono H5.out.2.2.size))
          have hst := hu2.sp.blk.lt
          clear hb hv2 hu2 cu0 cv0 
          by_cases h0 : tp = 0
          · subst h0
            have HN1 := Lib.hid (ag_neg (W := wr) (s := st) (some ⟨q, 0, none⟩) M M)
            go_wp2_with fail
            refine Calls.mono HN1.out ?_
            rintro r w10 ⟨rfl, b10⟩
            have H10 := Lib.hid (HB5.out.trans (b10.mono HB5.out.size))
            have cu3 := (b10.cell (p := ⟨st, 2, none⟩) hst).trans cu2
            clear b10 cu2 cv2
            go_wp2_with fail
            go_ret
            exact ⟨rfl, H10.out⟩
          · obtain ⟨t1, ht1⟩ : ∃ t1, tp = t1 + 1 := ⟨tp - 1, by omega⟩
            have k3 := ag_copy HA.out HTr.out hM30 t1 (by omega)
            rw [HA.out.no t1 (by rw [← HD.out.1]; omega)] at k3
            have e1 : (tp : Int) - 1 = (t1 : Int) := by omega
            have HC3 := Lib.hid (show Calls Try.prog 9 #[.pointer (some ⟨st, 0, none⟩), .slice (some ⟨q, 0, none⟩) M M, .int .i64 t1] wr (RetP (.tuple #[.pointer none, .slice none 0 0, .int .i64 6]) wr) from k3)
            have hnz : ¬ (tp : Int) = 0 := by omega
            clear k3 ht1 h0
            go_wp2_with fail
            refine Calls.mono HC3.out ?_
            rintro r w10 ⟨rfl, b10⟩
            have H10 := Lib.hid (HB5.out.trans (b10.mono HB5.out.size))
            have cu3 := (b10.cell (p := ⟨st, 2, none⟩) hst).trans cu2
            clear b10 cu2 cv2
            go_wp2_with fail
            go_ret
            exact ⟨rfl, H10.out⟩
end Go.Proofs.Ytlibcpboooehlaa
namespace Go.Proofs.Ytlibcpboooehlaa.copyAgain
open Go.ChangeShapes Go.WideShapes Go.ChangeAt Go.RowKit
open Go.ChangeMaps (open_string shut_string)
set_option linter.unusedVariables false
set_option maxRecDepth 100000 in
theorem lifted (os : Os) (started : os.Started) (H : Type) (enc : TypeId × Value → H) :
    ReturnsInHanded {} Try.checked os 4 .any (Rows.copyAgainSpec.pre6 enc Try.prog Try.f4 Rows.copyAgainRow.domain false) (Rows.copyAgainSpec.post enc Try.prog Try.f4 false true false false) := by
  refine returnsInHanded_of_change (C := Try.checked) own started (by kernel_rfl) Try.func4
    (ChangeSpec.witness6 (enc := enc) (C := Try.checked) false ⟨#[], #[.slice none 0 0, .int .i64 0, .int .i64 0, .slice none 0 0], []⟩ 8 (by kernel_rfl) (by kernel_rfl) (by kernel_rfl) (by kernel_rfl)) ?_
  intro W base args ds gs before hval0 hW hcnd _
  have hval : ∀ (j : Nat) t v, Try.f4.params[j]? = some t → args[j]? = some v → Value.okWide Try.prog W .any base t v := hval0
  have hW' := hW
  obtain ⟨p, q, hA0, hV, rfl, hfz, hnd⟩ := hW
  have hA : DataW.TrodAll enc Try.prog W 0 (fun _ => true) true Try.f4.params.toList args.toList ds p := hA0
  rw [Try.params4] at hA hval
  obtain ⟨v0, vs0, d0, ds0, p0, q0, hargs, rfl, rfl, h0, r0⟩ := trodAll_cons hA
  obtain ⟨v1, vs1, d1, ds1, p1, q1, rfl, rfl, rfl, h1, r1⟩ := trodAll_cons r0
  obtain ⟨v2, vs2, d2, ds2, p2, q2, rfl, rfl, rfl, h2, r2⟩ := trodAll_cons r1
  obtain ⟨v3, vs3, d3, ds3, p3, q3, rfl, rfl, rfl, h3, r3⟩ := trodAll_cons r2
  obtain ⟨rfl, rfl, rfl⟩ := trodAll_nil r3
  obtain rfl : args = #[v0, v1, v2, v3] := by cases args; simp_all
  obtain ⟨rfl, rfl⟩ := trodVars_none hV
  have k0 := h0
  have lt0 : ∀ x ∈ p0, x.block < W.heap.size := by obtain ⟨m, hm⟩ := k0; exact DataW.trod_lt m _ _ _ hm
  obtain ⟨A0, a0, c0, e0v, g0, m0, w0⟩ := open_words Try.underlying22 Try.underlying44 (by kernel_rfl) (hval 0 22 v0 rfl rfl) h0; subst e0v
  have k1 := h1
  have lt1 : ∀ x ∈ p1, x.block < W.heap.size := by obtain ⟨m, hm⟩ := k1; exact DataW.trod_lt m _ _ _ hm
  obtain ⟨a1, e1v, _, _, w1⟩ := open_int Try.underlying3 (hval 1 3 v1 rfl rfl) h1; subst e1v
  have k2 := h2
  have lt2 : ∀ x ∈ p2, x.block < W.heap.size := by obtain ⟨m, hm⟩ := k2; exact DataW.trod_lt m _ _ _ hm
  obtain ⟨a2, e2v, _, _, w2⟩ := open_int Try.underlying3 (hval 2 3 v2 rfl rfl) h2; subst e2v
  have k3 := h3
  have lt3 : ∀ x ∈ p3, x.block < W.heap.size := by obtain ⟨m, hm⟩ := k3; exact DataW.trod_lt m _ _ _ hm
  obtain ⟨A3, a3, c3, e3v, g3, m3, w3⟩ := open_intz Try.underlying23 Try.underlying3 (by kernel_rfl) (hval 3 23 v3 rfl rfl) h3; subst e3v
  clear hA0 hval0
  refine (again_walk W A0 a0 c0 g0 m0 w0 a1 w1 a2 w2 A3 a3 c3 g3 m3 w3).mono fun e W' ⟨he, bel⟩ => ?_
  subst he
  exact ⟨_, rfl, _, _, _, [], _, [], hW', trodAll_mk1 (shut_bool Try.underlying4 _), (trodAll_cons_mk (Below.trod laidOut (by kernel_rfl) (of_decide_eq_true (by kernel_rfl)) k0 bel lt0) (trodAll_cons_mk (Below.trod laidOut (by kernel_rfl) (of_decide_eq_true (by kernel_rfl)) k1 bel lt1) (trodAll_cons_mk (Below.trod laidOut (by kernel_rfl) (of_decide_eq_true (by kernel_rfl)) k2 bel lt2) (trodAll_cons_mk (Below.trod laidOut (by kernel_rfl) (of_decide_eq_true (by kernel_rfl)) k3 bel lt3) trodAll_mk0)))), rfl, bel.frame _, fun h => by cases h⟩
theorem over : Rows.copyAgainRow.holds Try.pinned (OpenSpec.ofChange Rows.copyAgainSpec) :=
  OpenClaim.holds_of_wide 4 Try.f4 rfl rfl rfl rfl rfl rfl rfl ⟨rfl, rfl, rfl, rfl, rfl⟩ rfl rfl rfl rfl rfl (by kernel_rfl) Try.func4 (by kernel_rfl)
    (of_decide_eq_true (by kernel_rfl)) (by unfold Func.isWrapper; first | (rw [if_pos (by decide +kernel)]; kernel_rfl) | (rw [if_neg (by decide +kernel)]; exact ⟨rfl, rfl⟩))
    (fun os started H enc _ => lifted os started H enc)
theorem proved : Rows.CopyAgainSaid := over
end Go.Proofs.Ytlibcpboooehlaa.copyAgain
