/- disk.Of; where a sector stands. Conditions: lengths. -/
import Derived.Test.YtfcbmdmkdjaoaaaDkD
namespace Go.Proofs.Ytfcbmdmkdjaoaaa
set_option linter.unusedVariables false
set_option linter.unusedSimpArgs false
open Go.RowKit Go.Maps
set_option maxHeartbeats 400000
set_option maxRecDepth 100000
/-- May n bytes be a disk of sectors of s bytes? -/
def okO (n : Nat) (s : Int) : Bool := decide (1 ≤ s) && (decide ((n : Int) % s = 0) && okS ((n : Int) / s) s)
theorem dof_bad (w : World) (A : Option Addr) (n c : Nat) (s : Int) (hn : n ≤ maxLen) (h1 : -9223372036854775808 ≤ s) (h2 : s ≤ 9223372036854775807) (h : okO n s = false) : Calls Try.prog 25 #[.slice A n c, .int .i64 s] w fun e w' => e = .returned (.tuple #[.pointer none, .int .i64 1]) ∧ w' = w := by
  by_cases hs : s < 1
  · go_enter Try.func25, Try.ntmps25
    go_wp2_with fail
    go_ret2
    exact ⟨rfl, rfl⟩
  · have hs1 : 1 ≤ s := by omega
    unfold maxLen at hn
    have q1 : (n : Int) ≤ 9223372036854775807 := by omega
    have q2 : (0 : Int) ≤ (n : Int) := by omega
    have hd : (n : Int).tdiv s = (n : Int) / s := Int.tdiv_eq_ediv_of_nonneg (by omega)
    have hm : (n : Int).tmod s = (n : Int) % s := Int.tmod_eq_emod_of_nonneg (by omega)
    have hq0 : (0 : Int) ≤ (n : Int) / s := Int.ediv_nonneg (by omega) (by omega)
    have hq1 : (n : Int) / s ≤ (n : Int) := Int.ediv_le_self _ (by omega)
    by_cases hr : (n : Int) % s = 0
    · have hsh : okS ((n : Int) / s) s = false := by
        unfold okO at h
        simp only [hr, decide_true, Bool.true_and, Bool.and_eq_false_iff, decide_eq_false_iff_not] at h
        rcases h with h | h
        · omega
        · exact h
      obtain ⟨q, hq⟩ : ∃ q, q = (n : Int) / s := ⟨_, rfl⟩
      rw [← hq] at hd hq0 hq1 hsh
      have HS := Lib.hid (shaped_c w q s)
      rw [hsh] at HS
      have hd2 : (n : Int) / s = q := hq.symm
      rw [hr] at hm
      have t0 : (s == 0) = false := by simp; omega
      have t0' : ¬ s = 0 := by omega
      have t1 : decide (s < 1) = false := by simp; omega
      have kq : IntKind.i64.wrap q = q := IntWalk.i64_in _ (by omega)
      clear hsh hq h hs hn
      go_enter Try.func25, Try.ntmps25
      go_wp2_with fail
      refine Calls.mono HS.out ?_
      rintro e w' ⟨rfl, rfl⟩
      go_wp2_with fail
      go_ret2
      exact ⟨rfl, rfl⟩
    · obtain ⟨q, hq⟩ : ∃ q, q = (n : Int) % s := ⟨_, rfl⟩
      have hb : 0 ≤ (n : Int) % s ∧ (n : Int) % s < s := ⟨Int.emod_nonneg _ (by omega), Int.emod_lt_of_pos _ (by omega)⟩
      rw [← hq] at hm hr hb
      obtain ⟨b1, b2⟩ := hb
      have hd2 : (n : Int) % s = q := hq.symm
      have t0 : (s == 0) = false := by simp; omega
      have t0' : ¬ s = 0 := by omega
      have t1 : decide (s < 1) = false := by simp; omega
      have t2 : (q == 0) = false := by simp; omega
      have t3 : (q != 0) = true := by simp; omega
      have kq : IntKind.i64.wrap q = q := IntWalk.i64_in _ (by omega)
      clear hq h hs hn hd hr hq0 hq1
      go_enter Try.func25, Try.ntmps25
      go_wp2_with fail
      go_ret2
      exact ⟨rfl, rfl⟩
theorem dof_ok (w : World) (A : Option Addr) (bs : List (BitVec 8)) (c secs size : Nat) (hr : Rd b8 w w.heap.size A bs) (h1 : 64 ≤ size ∧ size ≤ 1024) (h2 : 1 ≤ secs ∧ secs ≤ 16384) (h3 : bs.length = secs * size) : Calls Try.prog 25 #[.slice A bs.length c, .int .i64 size] w fun e w' => ∃ g, e = .returned (.tuple #[.pointer (some ⟨g, 0, none⟩), .int .i64 0]) ∧ DiskX w.heap.size (fun _ => False) w' g (dk0 secs size bs) ∧ Below w.heap.size w w' := by
  have hok : okS secs size = true := by unfold okS; simp; omega
  have HS := Lib.hid (fun w => shaped_c w secs size)
  rw [hok] at HS
  have q1 : (secs : Int) ≤ 16384 := by omega
  have q2 : (size : Int) ≤ 1024 := by omega
  have q3 : (0 : Int) ≤ (secs : Int) := by omega
  have q4 : (1 : Int) ≤ (size : Int) := by omega
  have hle : secs * size ≤ 16777216 := by
    have := Nat.mul_le_mul h2.2 h1.2
    omega
  have HC := Lib.hid (clone_c bs A c w hr (by omega))
  obtain ⟨n, hn⟩ : ∃ n, n = bs.length := ⟨_, rfl⟩
  unfold NewP at HC
  rw [← hn] at h3 HC ⊢
  have HN := Lib.hid (And.intro hn (And.intro h3 (And.intro h1 h2)))
  have q5 : (n : Int) ≤ 16777216 := by omega
  have q6 : (0 : Int) ≤ (n : Int) := by omega
  have hnn : (n : Int) = (secs : Int) * (size : Int) := by rw [h3]; simp
  have hd : (n : Int).tdiv (size : Int) = (secs : Int) := by rw [hnn, Int.mul_tdiv_cancel _ (by omega)]
  have hm : (n : Int).tmod (size : Int) = 0 := by rw [hnn, Int.mul_tmod_left]
  have hd2 : (n : Int) / (size : Int) = (secs : Int) := by rw [hnn, Int.mul_ediv_cancel _ (by omega)]
  have hm2 : (n : Int) % (size : Int) = 0 := by rw [hnn, Int.mul_emod_left]
  have t0 : ((size : Int) == 0) = false := by simp; omega
  have t0' : ¬ size = 0 := by omega
  have t1 : decide ((size : Int) < 1) = false := by simp; omega
  clear hok hn hle h1 h2 h3 hr hnn
  go_enter Try.func25, Try.ntmps25
  go_wp2_with fail
  refine Calls.mono (HS.out _) ?_
  rintro e w1 ⟨rfl, rfl⟩
  go_wp2_with fail
  refine Calls.mono HC.out ?_
  rintro e w2 ⟨A2, c2, rfl, hc2, ho, hb⟩
  have HO := Lib.hid ho
  have HB := Lib.hid hb
  obtain ⟨kb, rfl⟩ : ∃ kb, A2 = some ⟨kb, 0, none⟩ := by
    rcases ho.2 with ⟨e, hn⟩ | ⟨q, _, _, e, _⟩
    · have := HN.out; have h0 : 1 ≤ secs * size := Nat.mul_le_mul this.2.2.2.1 (show 1 ≤ size by omega); omega
    · injection e with e; exact ⟨q, e⟩
  have HM := Lib.hid (made_c w2 kb c2 bs secs size (by have := HO.out.mono (Nat.zero_le _); rw [HN.out.1] at this; exact this) HN.out.2.2.1 HN.out.2.2.2 (by rw [← HN.out.1]; exact HN.out.2.1))
  rw [← HN.out.1] at HM
  have HKB := Lib.hid ((ow_addr ho) _ rfl).1
  clear ho hb hc2 hd hm hd2 hm2
  go_wp2_with fail
  refine Calls.mono HM.out ?_
  rintro e w3 ⟨rfl, h3, b3⟩
  have HX := Lib.hid (And.intro h3 b3)
  clear h3 b3
  go_wp2_with fail
  go_ret2
  refine ⟨_, rfl, ⟨_, HX.out.1, fun k hk => ⟨?_, fun h => h⟩⟩, HB.out.trans (HX.out.2.mono HB.out.size)⟩
  have := HB.out.size
  have hkb : w1.heap.size ≤ kb := HKB.out
  rcases hk with (e | e | e | ⟨a, e, _⟩) | e
  · omega
  · simp only at e; omega
  · simp only at e; omega
  · cases e
  · exact e.elim
attribute [local go_sem high] sliced_cut
theorem cut_some (q c k : Nat) (h : ¬ c = k) : cutA (some (⟨q, 0, none⟩ : Addr)) c k = some ⟨q, k, none⟩ := by
  unfold cutA
  rw [if_neg h]
  show some ((⟨q, 0, none⟩ : Addr).add k) = _
  congr 1
  unfold Addr.add; split <;> simp_all
theorem dse_reg (Q : Exit → Act → World → Prop) (a0 : Act) (w : World) (g h L S c kb s o r rc : Nat) (hg : g < w.heap.size) (c0 : w.cell? ⟨g, 0, none⟩ = some (.int .i64 S)) (c1 : w.cell? ⟨g, 1, none⟩ = some (.slice (some ⟨kb, 0, none⟩) L c)) (hh : h < w.heap.size) (ch : w.cell? ⟨h, 0, none⟩ = some (.int .i64 s)) (e1 : (s : Int) * (S : Int) = (o : Int)) (t1 : (o : Int) ≤ (L : Int)) (t2 : (L : Int) ≤ (c : Int)) (t3 : (c : Int) ≤ 9223372036854775807) (t4 : (S : Int) ≤ (rc : Int)) (g1 : L - o = r) (g2 : c - o = rc) (g3 : o ≤ L) (g4 : L ≤ c) (g5 : S ≤ rc) (g6 : ¬ c = o) (p1 : (0 : Int) ≤ (o : Int)) (p2 : (0 : Int) ≤ (S : Int)) (p3 : (o : Int) ≤ 100000000) (g7 : ¬ rc = 0) (hsz : a0.tmps.size = 22) (sl0 : a0.tmps.getD 0 undef = .pointer (some ⟨g, 0, none⟩)) (sl3 : a0.tmps.getD 3 undef = .pointer (some ⟨h, 0, none⟩))
    (fin : ∀ (vals : Nat → Value) (w1 : World), Below w.heap.size w w1 → (IsV (.slice (some ⟨kb, o, none⟩) S rc)) (vals 17) w1 → Q .normal (putD vals [5, 6, 7, 8, 9, 10, 11, 12, 13, 14, 15, 16, 17, 18, 19, 20, 21, 4] 0 a0) w1) :
    (Code.region 1 (regIn Try.f30 1) true).wp Try.prog Q a0 w := by
  refine region_by (G := fun w w1 => Below w.heap.size w w1) [IsV (.pointer (some ⟨g, 0, none⟩)),
    IsV (.pointer (some ⟨g, 0, none⟩)),
    IsV (.pointer (some ⟨g, 1, none⟩)),
    IsV (.slice (some ⟨kb, 0, none⟩) L c),
    IsV (.pointer (some ⟨h, 0, none⟩)),
    IsV (.int .i64 s),
    IsV (.pointer (some ⟨g, 0, none⟩)),
    IsV (.pointer (some ⟨g, 0, none⟩)),
    IsV (.pointer (some ⟨g, 0, none⟩)),
    IsV (.int .i64 S),
    IsV (.int .i64 o),
    IsV (.slice (some ⟨kb, o, none⟩) r rc),
    IsV (.pointer (some ⟨g, 0, none⟩)),
    IsV (.pointer (some ⟨g, 0, none⟩)),
    IsV (.pointer (some ⟨g, 0, none⟩)),
    IsV (.int .i64 S),
    IsV (.slice (some ⟨kb, o, none⟩) S rc),
    IsV (.slice (some ⟨kb, o, none⟩) S rc)]
    [5, 6, 7, 8, 9, 10, 11, 12, 13, 14, 15, 16, 17, 18, 19, 20, 21, 4] (by kernel_rfl) (Gw.drew _) Gw.trans (by rw [hsz]; kernel_rfl) (by kernel_rfl) ?_ ?_ ?_
  · intro f hf
    simp only [List.mem_cons, List.not_mem_nil, or_false] at hf
    rcases hf with rfl | rfl | rfl | rfl | rfl | rfl | rfl | rfl | rfl | rfl | rfl | rfl | rfl | rfl | rfl | rfl | rfl | rfl <;> intro v a b h g <;> first | exact IsV.mono h
  · refine ⟨?_, ?_, ?_, ?_, ?_, ?_, ?_, ?_, ?_, ?_, ?_, ?_, ?_, ?_, ?_, ?_, ?_, ?_, trivial⟩
    · exact owes_mv 0 (by kernel_rfl) (by kernel_rfl) (by kernel_rfl) sl0 (fun _ => rfl)
    · refine owes_v (Go.Op.nilCheck (Go.Operand.tmp 5)) 0 [0] (by kernel_rfl) (by kernel_rfl) (by kernel_rfl) rfl fun vals w1 ρ hG hF hρ hcst hfun => ?_
      have e5 : ρ (.tmp 5) = .pointer (some ⟨g, 0, none⟩) := ((hρ 5).trans (slotJ [0] (by rw [hsz]; decide) (by kernel_rfl))).trans (hF 0 (by decide))
      clear hρ hF hcst hfun sl0 sl3 fin
      exact opv_val (by go_simp <;> rfl) ⟨gw_self _, rfl⟩
    · refine owes_v (Go.Op.fieldAddr 64 (Go.Operand.tmp 6) 1) 0 [1] (by kernel_rfl) (by kernel_rfl) (by kernel_rfl) rfl fun vals w1 ρ hG hF hρ hcst hfun => ?_
      have e6 : ρ (.tmp 6) = .pointer (some ⟨g, 0, none⟩) := ((hρ 6).trans (slotJ [1] (by rw [hsz]; decide) (by kernel_rfl))).trans (hF 1 (by decide))
      clear hρ hF hcst hfun sl0 sl3 fin
      exact opv_val (by go_simp <;> rfl) ⟨gw_self _, rfl⟩
    · refine owes_v (Go.Op.load 34 (Go.Operand.tmp 7)) 34 [2] (by kernel_rfl) (by kernel_rfl) (by kernel_rfl) rfl fun vals w1 ρ hG hF hρ hcst hfun => ?_
      have e7 : ρ (.tmp 7) = .pointer (some ⟨g, 1, none⟩) := ((hρ 7).trans (slotJ [2] (by rw [hsz]; decide) (by kernel_rfl))).trans (hF 2 (by decide))
      have k := (hG.cell (p := ⟨g, 1, none⟩) hg).trans c1
      clear hρ hF hcst hfun sl0 sl3 fin
      exact opv_val (by go_simp <;> rfl) ⟨gw_self _, rfl⟩
    · refine owes_v (Go.Op.fieldAddr 67 (Go.Operand.tmp 3) 0) 0 [] (by kernel_rfl) (by kernel_rfl) (by kernel_rfl) rfl fun vals w1 ρ hG hF hρ hcst hfun => ?_
      have e3 : ρ (.tmp 3) = .pointer (some ⟨h, 0, none⟩) := ((hρ 3).trans (slotO [] (by kernel_rfl))).trans sl3
      clear hρ hF hcst hfun sl0 sl3 fin
      exact opv_val (by go_simp <;> rfl) ⟨gw_self _, rfl⟩
    · refine owes_v (Go.Op.load 3 (Go.Operand.tmp 9)) 3 [4] (by kernel_rfl) (by kernel_rfl) (by kernel_rfl) rfl fun vals w1 ρ hG hF hρ hcst hfun => ?_
      have e9 : ρ (.tmp 9) = .pointer (some ⟨h, 0, none⟩) := ((hρ 9).trans (slotJ [4] (by rw [hsz]; decide) (by kernel_rfl))).trans (hF 4 (by decide))
      have k := (hG.cell (p := ⟨h, 0, none⟩) hh).trans ch
      clear hρ hF hcst hfun sl0 sl3 fin
      exact opv_val (by go_simp <;> rfl) ⟨gw_self _, rfl⟩
    · exact owes_mv 0 (by kernel_rfl) (by kernel_rfl) (by kernel_rfl) sl0 (fun _ => rfl)
    · refine owes_v (Go.Op.nilCheck (Go.Operand.tmp 11)) 0 [6] (by kernel_rfl) (by kernel_rfl) (by kernel_rfl) rfl fun vals w1 ρ hG hF hρ hcst hfun => ?_
      have e11 : ρ (.tmp 11) = .pointer (some ⟨g, 0, none⟩) := ((hρ 11).trans (slotJ [6] (by rw [hsz]; decide) (by kernel_rfl))).trans (hF 6 (by decide))
      clear hρ hF hcst hfun sl0 sl3 fin
      exact opv_val (by go_simp <;> rfl) ⟨gw_self _, rfl⟩
    · refine owes_v (Go.Op.fieldAddr 64 (Go.Operand.tmp 12) 0) 0 [7] (by kernel_rfl) (by kernel_rfl) (by kernel_rfl) rfl fun vals w1 ρ hG hF hρ hcst hfun => ?_
      have e12 : ρ (.tmp 12) = .pointer (some ⟨g, 0, none⟩) := ((hρ 12).trans (slotJ [7] (by rw [hsz]; decide) (by kernel_rfl))).trans (hF 7 (by decide))
      clear hρ hF hcst hfun sl0 sl3 fin
      exact opv_val (by go_simp <;> rfl) ⟨gw_self _, rfl⟩
    · refine owes_v (Go.Op.load 3 (Go.Operand.tmp 13)) 3 [8] (by kernel_rfl) (by kernel_rfl) (by kernel_rfl) rfl fun vals w1 ρ hG hF hρ hcst hfun => ?_
      have e13 : ρ (.tmp 13) = .pointer (some ⟨g, 0, none⟩) := ((hρ 13).trans (slotJ [8] (by rw [hsz]; decide) (by kernel_rfl))).trans (hF 8 (by decide))
      have k := (hG.cell (p := ⟨g, 0, none⟩) hg).trans c0
      clear hρ hF hcst hfun sl0 sl3 fin
      exact opv_val (by go_simp <;> rfl) ⟨gw_self _, rfl⟩
    · refine owes_v (Go.Op.binOp Go.BinOp.mul 3 (Go.Operand.tmp 10) (Go.Operand.tmp 14) 3) 3 [5, 9] (by kernel_rfl) (by kernel_rfl) (by kernel_rfl) rfl fun vals w1 ρ hG hF hρ hcst hfun => ?_
      have e10 : ρ (.tmp 10) = .int .i64 s := ((hρ 10).trans (slotJ [5, 9] (by rw [hsz]; decide) (by kernel_rfl))).trans (hF 5 (by decide))
      have e14 : ρ (.tmp 14) = .int .i64 S := ((hρ 14).trans (slotJ [5, 9] (by rw [hsz]; decide) (by kernel_rfl))).trans (hF 9 (by decide))
      have kw0 : IntKind.i64.wrap ((o : Int)) = (o : Int) := wrapIn (by omega) (by omega)
      clear hρ hF hcst hfun sl0 sl3 fin
      exact opv_val (by go_simp <;> rfl) ⟨gw_self _, rfl⟩
    · refine owes_v (Go.Op.slice 34 (Go.Operand.tmp 8) (some (Go.Operand.tmp 15)) none none) 34 [3, 10] (by kernel_rfl) (by kernel_rfl) (by kernel_rfl) rfl fun vals w1 ρ hG hF hρ hcst hfun => ?_
      have e8 : ρ (.tmp 8) = .slice (some ⟨kb, 0, none⟩) L c := ((hρ 8).trans (slotJ [3, 10] (by rw [hsz]; decide) (by kernel_rfl))).trans (hF 3 (by decide))
      have e15 : ρ (.tmp 15) = .int .i64 o := ((hρ 15).trans (slotJ [3, 10] (by rw [hsz]; decide) (by kernel_rfl))).trans (hF 10 (by decide))
      clear hρ hF hcst hfun sl0 sl3 fin
      exact opv_val (by go_simp <;> rfl) ⟨gw_self _, rfl⟩
    · exact owes_mv 0 (by kernel_rfl) (by kernel_rfl) (by kernel_rfl) sl0 (fun _ => rfl)
    · refine owes_v (Go.Op.nilCheck (Go.Operand.tmp 17)) 0 [12] (by kernel_rfl) (by kernel_rfl) (by kernel_rfl) rfl fun vals w1 ρ hG hF hρ hcst hfun => ?_
      have e17 : ρ (.tmp 17) = .pointer (some ⟨g, 0, none⟩) := ((hρ 17).trans (slotJ [12] (by rw [hsz]; decide) (by kernel_rfl))).trans (hF 12 (by decide))
      clear hρ hF hcst hfun sl0 sl3 fin
      exact opv_val (by go_simp <;> rfl) ⟨gw_self _, rfl⟩
    · refine owes_v (Go.Op.fieldAddr 64 (Go.Operand.tmp 18) 0) 0 [13] (by kernel_rfl) (by kernel_rfl) (by kernel_rfl) rfl fun vals w1 ρ hG hF hρ hcst hfun => ?_
      have e18 : ρ (.tmp 18) = .pointer (some ⟨g, 0, none⟩) := ((hρ 18).trans (slotJ [13] (by rw [hsz]; decide) (by kernel_rfl))).trans (hF 13 (by decide))
      clear hρ hF hcst hfun sl0 sl3 fin
      exact opv_val (by go_simp <;> rfl) ⟨gw_self _, rfl⟩
    · refine owes_v (Go.Op.load 3 (Go.Operand.tmp 19)) 3 [14] (by kernel_rfl) (by kernel_rfl) (by kernel_rfl) rfl fun vals w1 ρ hG hF hρ hcst hfun => ?_
      have e19 : ρ (.tmp 19) = .pointer (some ⟨g, 0, none⟩) := ((hρ 19).trans (slotJ [14] (by rw [hsz]; decide) (by kernel_rfl))).trans (hF 14 (by decide))
      have k := (hG.cell (p := ⟨g, 0, none⟩) hg).trans c0
      clear hρ hF hcst hfun sl0 sl3 fin
      exact opv_val (by go_simp <;> rfl) ⟨gw_self _, rfl⟩
    · refine owes_v (Go.Op.slice 34 (Go.Operand.tmp 16) none (some (Go.Operand.tmp 20)) none) 34 [11, 15] (by kernel_rfl) (by kernel_rfl) (by kernel_rfl) rfl fun vals w1 ρ hG hF hρ hcst hfun => ?_
      have e16 : ρ (.tmp 16) = .slice (some ⟨kb, o, none⟩) r rc := ((hρ 16).trans (slotJ [11, 15] (by rw [hsz]; decide) (by kernel_rfl))).trans (hF 11 (by decide))
      have e20 : ρ (.tmp 20) = .int .i64 S := ((hρ 20).trans (slotJ [11, 15] (by rw [hsz]; decide) (by kernel_rfl))).trans (hF 15 (by decide))
      clear hρ hF hcst hfun sl0 sl3 fin
      exact opv_val (by go_simp <;> rfl) ⟨gw_self _, rfl⟩
    · exact owes_mvj 16 21 (by kernel_rfl) (by kernel_rfl) (by kernel_rfl) (by kernel_rfl) (by rw [hsz]; decide) (fun v w h => h)
  · intro vals w1 hG hF
    exact fin vals w1 hG (hF 17 (by decide +kernel))
end Go.Proofs.Ytfcbmdmkdjaoaaa
