/- disk.New, Of, Shape, Off, Pending, Writes, On, Bytes. Conditions: lengths. -/
import Derived.Test.YtfcbmdmkdjaoaaaDkC
namespace Go.Proofs.Ytfcbmdmkdjaoaaa
set_option linter.unusedVariables false
set_option linter.unusedSimpArgs false
open Go.RowKit Go.Maps
set_option maxHeartbeats 400000
set_option maxRecDepth 100000
theorem dnew_bad (w : World) (a b : Int) (h : okS a b = false) : Calls Try.prog 8 #[.int .i64 a, .int .i64 b] w fun e w' => e = .returned (.tuple #[.pointer none, .int .i64 1]) ∧ w' = w := by
  have HS := Lib.hid (shaped_c w a b)
  rw [h] at HS
  clear h
  go_enter Try.func8, Try.ntmps8
  go_wp2_with fail
  refine Calls.mono HS.out ?_
  rintro e w' ⟨rfl, rfl⟩
  go_wp2_with fail
  go_ret2
  exact ⟨rfl, rfl⟩
theorem dnew_ok (w : World) (secs size : Nat) (h1 : 64 ≤ size ∧ size ≤ 1024) (h2 : 1 ≤ secs ∧ secs ≤ 16384) : Calls Try.prog 8 #[.int .i64 secs, .int .i64 size] w fun e w' => ∃ g, e = .returned (.tuple #[.pointer (some ⟨g, 0, none⟩), .int .i64 0]) ∧ DiskX w.heap.size (fun _ => False) w' g (dk0 secs size (List.replicate (secs * size) 0#8)) ∧ Below w.heap.size w w' := by
  have hok : okS secs size = true := by unfold okS; simp; omega
  have HS := Lib.hid (shaped_c w secs size)
  rw [hok] at HS
  have q1 : (secs : Int) ≤ 16384 := by omega
  have q2 : (size : Int) ≤ 1024 := by omega
  have q3 : (0 : Int) ≤ (secs : Int) := by omega
  have q4 : (0 : Int) ≤ (size : Int) := by omega
  have hle : secs * size ≤ 16777216 := by
    have := Nat.mul_le_mul h2.2 h1.2
    omega
  obtain ⟨n, hn⟩ : ∃ n, n = secs * size := ⟨_, rfl⟩
  rw [← hn] at hle ⊢
  have hw : IntKind.i64.wrap ((secs : Int) * (size : Int)) = (n : Int) := by rw [hn, IntWalk.i64_in _ (by rw [← Int.natCast_mul, ← hn]; omega)]; simp
  have HN := Lib.hid (And.intro hn (And.intro hle (And.intro h1 h2)))
  clear hok hn hle h1 h2
  go_enter Try.func8, Try.ntmps8
  go_wp2_with fail
  refine Calls.mono HS.out ?_
  rintro e w' ⟨rfl, rfl⟩
  go_wp2_with (at_make; refine wp_make (f := b8) one8 rfl (.tmp 12) (.tmp 12) rfl (0#8) rfl w'.heap.size n .i64 .i64 (n : Int) (n : Int) rfl rfl rfl rfl (by have := HN.out.2.1; omega) (by decide) (Nat.le_refl _) ?_; intro kb w2 hkb ho hb hg; have HKB := Lib.hid hkb; have HB := Lib.hid hb; have HOO := Lib.hid ho; clear hkb hb ho hg)
  have HM := Lib.hid (made_c w2 kb n (List.replicate n 0#8) secs size (by rw [List.length_replicate]; exact HOO.out.mono (Nat.zero_le _)) HN.out.2.2.1 HN.out.2.2.2 (by rw [List.length_replicate]; exact HN.out.1))
  rw [List.length_replicate] at HM
  clear hw
  go_wp2_with fail
  refine Calls.mono HM.out ?_
  rintro e w3 ⟨rfl, h3, b3⟩
  have HX := Lib.hid (And.intro h3 b3)
  clear h3 b3
  go_wp2_with fail
  go_ret2
  refine ⟨_, rfl, ⟨_, HX.out.1, fun k hk => ⟨?_, fun h => h⟩⟩, HB.out.trans (HX.out.2.mono HB.out.size)⟩
  have := HB.out.size
  have := HKB.out
  rcases hk with (e | e | e | ⟨a, e, _⟩) | e
  · omega
  · simp only at e; omega
  · simp only at e; omega
  · cases e
  · exact e.elim
theorem dsh_reg (Q : Exit → Act → World → Prop) (a0 : Act) (w : World) (g L S n c : Nat) (A : Option Addr) (hg : g < w.heap.size) (c0 : w.cell? ⟨g, 0, none⟩ = some (.int .i64 S)) (c1 : w.cell? ⟨g, 1, none⟩ = some (.slice A L c)) (hq : (L : Int).tdiv (S : Int) = (n : Int)) (s0 : ((S : Int) == 0) = false) (s1 : ¬ S = 0) (n1 : (0 : Int) ≤ (n : Int)) (n2 : (n : Int) ≤ 16384) (hsz : a0.tmps.size = 23) (sl0 : a0.tmps.getD 0 undef = .pointer (some ⟨g, 0, none⟩))
    (fin : ∀ (vals : Nat → Value) (w1 : World), Below w.heap.size w w1 → (IsV (.int .i64 n)) (vals 14) w1 → (IsV (.int .i64 S)) (vals 15) w1 → Q .normal (putD vals [9, 10, 11, 12, 13, 14, 15, 16, 17, 18, 19, 20, 21, 22, 2, 3] 0 a0) w1) :
    (Code.region 3 (regIn Try.f23 3) true).wp Try.prog Q a0 w := by
  refine region_by (G := fun w w1 => Below w.heap.size w w1) [IsV (.pointer (some ⟨g, 0, none⟩)),
    IsV (.pointer (some ⟨g, 0, none⟩)),
    IsV (.pointer (some ⟨g, 1, none⟩)),
    IsV (.slice A L c),
    IsV (.int .i64 L),
    IsV (.pointer (some ⟨g, 0, none⟩)),
    IsV (.pointer (some ⟨g, 0, none⟩)),
    IsV (.pointer (some ⟨g, 0, none⟩)),
    IsV (.int .i64 S),
    IsV (.int .i64 n),
    IsV (.pointer (some ⟨g, 0, none⟩)),
    IsV (.pointer (some ⟨g, 0, none⟩)),
    IsV (.pointer (some ⟨g, 0, none⟩)),
    IsV (.int .i64 S),
    IsV (.int .i64 n),
    IsV (.int .i64 S)]
    [9, 10, 11, 12, 13, 14, 15, 16, 17, 18, 19, 20, 21, 22, 2, 3] (by kernel_rfl) (Gw.drew _) Gw.trans (by rw [hsz]; kernel_rfl) (by kernel_rfl) ?_ ?_ ?_
  · intro f hf
    simp only [List.mem_cons, List.not_mem_nil, or_false] at hf
    rcases hf with rfl | rfl | rfl | rfl | rfl | rfl | rfl | rfl | rfl | rfl | rfl | rfl | rfl | rfl | rfl | rfl <;> intro v a b h g <;> first | exact IsV.mono h
  · refine ⟨?_, ?_, ?_, ?_, ?_, ?_, ?_, ?_, ?_, ?_, ?_, ?_, ?_, ?_, ?_, ?_, trivial⟩
    · exact owes_mv 0 (by kernel_rfl) (by kernel_rfl) (by kernel_rfl) sl0 (fun _ => rfl)
    · refine owes_v (Go.Op.nilCheck (Go.Operand.tmp 9)) 0 [0] (by kernel_rfl) (by kernel_rfl) (by kernel_rfl) rfl fun vals w1 ρ hG hF hρ hcst hfun => ?_
      have e9 : ρ (.tmp 9) = .pointer (some ⟨g, 0, none⟩) := ((hρ 9).trans (slotJ [0] (by rw [hsz]; decide) (by kernel_rfl))).trans (hF 0 (by decide))
      clear hρ hF hcst hfun sl0 fin
      exact opv_val (by go_simp <;> rfl) ⟨gw_self _, rfl⟩
    · refine owes_v (Go.Op.fieldAddr 64 (Go.Operand.tmp 10) 1) 0 [1] (by kernel_rfl) (by kernel_rfl) (by kernel_rfl) rfl fun vals w1 ρ hG hF hρ hcst hfun => ?_
      have e10 : ρ (.tmp 10) = .pointer (some ⟨g, 0, none⟩) := ((hρ 10).trans (slotJ [1] (by rw [hsz]; decide) (by kernel_rfl))).trans (hF 1 (by decide))
      clear hρ hF hcst hfun sl0 fin
      exact opv_val (by go_simp <;> rfl) ⟨gw_self _, rfl⟩
    · refine owes_v (Go.Op.load 34 (Go.Operand.tmp 11)) 34 [2] (by kernel_rfl) (by kernel_rfl) (by kernel_rfl) rfl fun vals w1 ρ hG hF hρ hcst hfun => ?_
      have e11 : ρ (.tmp 11) = .pointer (some ⟨g, 1, none⟩) := ((hρ 11).trans (slotJ [2] (by rw [hsz]; decide) (by kernel_rfl))).trans (hF 2 (by decide))
      have k := (hG.cell (p := ⟨g, 1, none⟩) hg).trans c1
      clear hρ hF hcst hfun sl0 fin
      exact opv_val (by go_simp <;> rfl) ⟨gw_self _, rfl⟩
    · refine owes_v (Go.Op.call { callee := Go.Callee.builtin Go.Builtin.len, args := #[Go.Operand.tmp 12], argTypes := #[34] }) 3 [3] (by kernel_rfl) (by kernel_rfl) (by kernel_rfl) rfl fun vals w1 ρ hG hF hρ hcst hfun => ?_
      have e12 : ρ (.tmp 12) = .slice A L c := ((hρ 12).trans (slotJ [3] (by rw [hsz]; decide) (by kernel_rfl))).trans (hF 3 (by decide))
      clear hρ hF hcst hfun sl0 fin
      exact opv_val (by go_simp <;> rfl) ⟨gw_self _, rfl⟩
    · exact owes_mv 0 (by kernel_rfl) (by kernel_rfl) (by kernel_rfl) sl0 (fun _ => rfl)
    · refine owes_v (Go.Op.nilCheck (Go.Operand.tmp 14)) 0 [5] (by kernel_rfl) (by kernel_rfl) (by kernel_rfl) rfl fun vals w1 ρ hG hF hρ hcst hfun => ?_
      have e14 : ρ (.tmp 14) = .pointer (some ⟨g, 0, none⟩) := ((hρ 14).trans (slotJ [5] (by rw [hsz]; decide) (by kernel_rfl))).trans (hF 5 (by decide))
      clear hρ hF hcst hfun sl0 fin
      exact opv_val (by go_simp <;> rfl) ⟨gw_self _, rfl⟩
    · refine owes_v (Go.Op.fieldAddr 64 (Go.Operand.tmp 15) 0) 0 [6] (by kernel_rfl) (by kernel_rfl) (by kernel_rfl) rfl fun vals w1 ρ hG hF hρ hcst hfun => ?_
      have e15 : ρ (.tmp 15) = .pointer (some ⟨g, 0, none⟩) := ((hρ 15).trans (slotJ [6] (by rw [hsz]; decide) (by kernel_rfl))).trans (hF 6 (by decide))
      clear hρ hF hcst hfun sl0 fin
      exact opv_val (by go_simp <;> rfl) ⟨gw_self _, rfl⟩
    · refine owes_v (Go.Op.load 3 (Go.Operand.tmp 16)) 3 [7] (by kernel_rfl) (by kernel_rfl) (by kernel_rfl) rfl fun vals w1 ρ hG hF hρ hcst hfun => ?_
      have e16 : ρ (.tmp 16) = .pointer (some ⟨g, 0, none⟩) := ((hρ 16).trans (slotJ [7] (by rw [hsz]; decide) (by kernel_rfl))).trans (hF 7 (by decide))
      have k := (hG.cell (p := ⟨g, 0, none⟩) hg).trans c0
      clear hρ hF hcst hfun sl0 fin
      exact opv_val (by go_simp <;> rfl) ⟨gw_self _, rfl⟩
    · refine owes_v (Go.Op.binOp Go.BinOp.quo 3 (Go.Operand.tmp 13) (Go.Operand.tmp 17) 3) 3 [4, 8] (by kernel_rfl) (by kernel_rfl) (by kernel_rfl) rfl fun vals w1 ρ hG hF hρ hcst hfun => ?_
      have e13 : ρ (.tmp 13) = .int .i64 L := ((hρ 13).trans (slotJ [4, 8] (by rw [hsz]; decide) (by kernel_rfl))).trans (hF 4 (by decide))
      have e17 : ρ (.tmp 17) = .int .i64 S := ((hρ 17).trans (slotJ [4, 8] (by rw [hsz]; decide) (by kernel_rfl))).trans (hF 8 (by decide))
      have kw0 : IntKind.i64.wrap ((n : Int)) = (n : Int) := wrapIn (by omega) (by omega)
      clear hρ hF hcst hfun sl0 fin
      exact opv_val (by go_simp <;> rfl) ⟨gw_self _, rfl⟩
    · exact owes_mv 0 (by kernel_rfl) (by kernel_rfl) (by kernel_rfl) sl0 (fun _ => rfl)
    · refine owes_v (Go.Op.nilCheck (Go.Operand.tmp 19)) 0 [10] (by kernel_rfl) (by kernel_rfl) (by kernel_rfl) rfl fun vals w1 ρ hG hF hρ hcst hfun => ?_
      have e19 : ρ (.tmp 19) = .pointer (some ⟨g, 0, none⟩) := ((hρ 19).trans (slotJ [10] (by rw [hsz]; decide) (by kernel_rfl))).trans (hF 10 (by decide))
      clear hρ hF hcst hfun sl0 fin
      exact opv_val (by go_simp <;> rfl) ⟨gw_self _, rfl⟩
    · refine owes_v (Go.Op.fieldAddr 64 (Go.Operand.tmp 20) 0) 0 [11] (by kernel_rfl) (by kernel_rfl) (by kernel_rfl) rfl fun vals w1 ρ hG hF hρ hcst hfun => ?_
      have e20 : ρ (.tmp 20) = .pointer (some ⟨g, 0, none⟩) := ((hρ 20).trans (slotJ [11] (by rw [hsz]; decide) (by kernel_rfl))).trans (hF 11 (by decide))
      clear hρ hF hcst hfun sl0 fin
      exact opv_val (by go_simp <;> rfl) ⟨gw_self _, rfl⟩
    · refine owes_v (Go.Op.load 3 (Go.Operand.tmp 21)) 3 [12] (by kernel_rfl) (by kernel_rfl) (by kernel_rfl) rfl fun vals w1 ρ hG hF hρ hcst hfun => ?_
      have e21 : ρ (.tmp 21) = .pointer (some ⟨g, 0, none⟩) := ((hρ 21).trans (slotJ [12] (by rw [hsz]; decide) (by kernel_rfl))).trans (hF 12 (by decide))
      have k := (hG.cell (p := ⟨g, 0, none⟩) hg).trans c0
      clear hρ hF hcst hfun sl0 fin
      exact opv_val (by go_simp <;> rfl) ⟨gw_self _, rfl⟩
    · exact owes_mvj 9 18 (by kernel_rfl) (by kernel_rfl) (by kernel_rfl) (by kernel_rfl) (by rw [hsz]; decide) (fun v w h => h)
    · exact owes_mvj 13 22 (by kernel_rfl) (by kernel_rfl) (by kernel_rfl) (by kernel_rfl) (by rw [hsz]; decide) (fun v w h => h)
  · intro vals w1 hG hF
    exact fin vals w1 hG (hF 14 (by decide +kernel)) (hF 15 (by decide +kernel))
section
variable {w : World} {g : Nat} {x : DX} {d : DK}
theorem dshape_c (h : DiskAt w g x d) : Calls Try.prog 23 #[.pointer (some ⟨g, 0, none⟩)] w fun e w' => e = .returned (.tuple #[.int .i64 d.secs, .int .i64 d.size]) ∧ Below w.heap.size w w' := by
  obtain ⟨c0, c1, _⟩ := h.blk.eight
  have hg := h.blk.lt
  obtain ⟨s1, s2⟩ := h.sz
  obtain ⟨n1, n2⟩ := h.sc
  obtain ⟨S, hS⟩ : ∃ S, S = d.size := ⟨_, rfl⟩
  obtain ⟨n, hn⟩ : ∃ n, n = d.secs := ⟨_, rfl⟩
  obtain ⟨L, hL⟩ : ∃ L, L = d.kept.length := ⟨_, rfl⟩
  have hkl := h.kl
  rw [← hS, ← hn, ← hL] at hkl
  rw [← hS] at c0 s1 s2 ⊢
  rw [← hn] at n1 n2 ⊢
  rw [← hL] at c1
  have hq : (L : Int).tdiv (S : Int) = (n : Int) := by rw [hkl, Int.natCast_mul, Int.mul_tdiv_cancel _ (by omega)]
  have t1 : ((S : Int) == 0) = false := by simp; omega
  have t2 : ¬ S = 0 := by omega
  have HR := Lib.hid (fun Q a0 => dsh_reg Q a0 w g L S n x.kc _ hg c0 c1 hq t1 t2 (by omega) (by omega))
  clear h hS hn hL hkl hq c1 s1 s2 n1 n2
  go_enter Try.func23, Try.ntmps23
  go_wp2_with fail
  refine HR.out _ _ rfl rfl ?_
  intro vals w1 hG h2 h3
  unfold IsV at h2 h3
  simp only [putD, Act.put, List.setIfInBounds_toArray, List.set_cons_zero, List.set_cons_succ, h2, h3]
  have HG := Lib.hid hG
  clear h2 h3 hG
  go_wp2_with fail
  go_ret2
  exact ⟨rfl, HG.out⟩
theorem dhas_c (h : DiskAt w g x d) (s : Int) : Calls Try.prog 28 #[.pointer (some ⟨g, 0, none⟩), .int .i64 s] w fun e w' => e = .returned (.bool (decide (0 ≤ s) && decide (s < d.secs))) ∧ Below w.heap.size w w' := by
  have HS := Lib.hid (dshape_c h)
  obtain ⟨n, hn⟩ : ∃ n, n = d.secs := ⟨_, rfl⟩
  rw [← hn] at HS ⊢
  clear h hn
  obtain ⟨r1, t1⟩ : ∃ r, decide (0 ≤ s) = r := ⟨_, rfl⟩
  obtain ⟨r2, t2⟩ : ∃ r, decide (s < (n : Int)) = r := ⟨_, rfl⟩
  rw [t1, t2]
  cases r1 <;> cases r2
  all_goals
    go_enter Try.func28, Try.ntmps28
    go_wp2_with fail
    refine Calls.mono HS.out ?_
    rintro e w1 ⟨rfl, b1⟩
    have HB := Lib.hid b1
    clear b1
    go_wp2_with fail
    go_ret
    exact ⟨rfl, HB.out⟩
theorem doff_c (h : DiskAt w g x d) : Calls Try.prog 20 #[.pointer (some ⟨g, 0, none⟩)] w fun e w' => e = .returned (.bool d.off) ∧ w' = w := by
  obtain ⟨_, _, _, _, c4, _⟩ := h.blk.eight
  obtain ⟨b, hb⟩ : ∃ b, b = d.off := ⟨_, rfl⟩
  rw [← hb] at c4 ⊢
  clear h hb
  go_enter Try.func20, Try.ntmps20
  go_wp2
  go_ret
  exact ⟨rfl, rfl⟩
theorem dpending_c (h : DiskAt w g x d) : Calls Try.prog 21 #[.pointer (some ⟨g, 0, none⟩)] w fun e w' => e = .returned (.int .i64 d.pend.length) ∧ w' = w := by
  obtain ⟨_, _, c2, _⟩ := h.blk.eight
  obtain ⟨b, hb⟩ : ∃ b, b = d.pend.length := ⟨_, rfl⟩
  rw [← hb] at c2 ⊢
  clear h hb
  go_enter Try.func21, Try.ntmps21
  go_wp2
  go_ret
  exact ⟨rfl, rfl⟩
theorem dwrites_c (h : DiskAt w g x d) : Calls Try.prog 22 #[.pointer (some ⟨g, 0, none⟩)] w fun e w' => e = .returned (.int .i64 d.writes) ∧ w' = w := by
  obtain ⟨_, _, _, _, _, _, _, c7⟩ := h.blk.eight
  obtain ⟨b, hb⟩ : ∃ b, b = d.writes := ⟨_, rfl⟩
  rw [← hb] at c7 ⊢
  clear h hb
  go_enter Try.func22, Try.ntmps22
  go_wp2
  go_ret
  exact ⟨rfl, rfl⟩
theorem dbytes_c (h : DiskAt w g x d) : Calls Try.prog 24 #[.pointer (some ⟨g, 0, none⟩)] w (NewP b8 5 d.kept w) := by
  obtain ⟨_, c1, _⟩ := h.blk.eight
  have hkl : d.kept.length ≤ 1073741824 := by
    have := h.kl
    have := Nat.mul_le_mul h.sc.2 h.sz.2
    omega
  have HC := Lib.hid (clone_c d.kept (some ⟨x.kb, 0, none⟩) x.kc w h.kept.rd hkl)
  obtain ⟨n, hn⟩ : ∃ n, n = d.kept.length := ⟨_, rfl⟩
  unfold NewP at HC ⊢
  rw [← hn] at HC c1 ⊢
  clear h hkl hn
  go_enter Try.func24, Try.ntmps24
  go_wp2_with fail
  refine Calls.mono HC.out ?_
  rintro e w1 ⟨A, c, rfl, hc, ho, hb⟩
  have HO := Lib.hid (And.intro hc (And.intro ho hb))
  clear hc ho hb
  go_wp2_with fail
  go_ret
  exact ⟨A, c, rfl, HO.out.1, HO.out.2.1, HO.out.2.2⟩
/-- A disk whose power is on. -/
def DK.on (d : DK) : DK := { d with off := false }
theorem don_c (h : DiskAt w g x d) : Calls Try.prog 18 #[.pointer (some ⟨g, 0, none⟩)] w fun e w' => e = .returned (.tuple #[]) ∧ DiskAt w' g x d.on ∧ Kept (Md g x) w w' := by
  have c4 := h.blk.eight.2.2.2.2.1
  have hfz := h.blk.free 4
  have H := Lib.hid h
  clear h
  go_enter Try.func18, Try.ntmps18
  go_wp2
  go_end0
  have h := H.out
  have hk := Kept.set w g 4 (.bool false)
  have h' := h
  refine ⟨rfl, ?_, hk.more (fun k e => .inl e)⟩
  exact ⟨h.blk.set 4 _, hk.ow h.kept (fun k e => by obtain ⟨a, e1, rfl⟩ := own_slice e; injection e1 with e1; subst e1; exact h.n1), h.pend.kept hk (fun k e => by obtain ⟨a, e1, rfl⟩ := own_slice e; exact (h.n4 a e1).1) (fun k e => (h.n5 k e).1),
   h.map.kept hk h.n2, hk.rd h.keep (fun a e => (h.n5 _ (h.keepD a e)).1), h.keepD, fun k e => Nat.lt_of_lt_of_le (h.Dlt k e) hk.size, h.n1, h.n2, h.n3, h.n4, h.n5, h.sz, h.sc, h.kl, h.pl, h.lim⟩
end
end Go.Proofs.Ytfcbmdmkdjaoaaa
