/- What hand.New, Get, Close, Open answer. Conditions: at most 1000000 handles made. -/
import Derived.Test.YtflocdghpnjoaaaHdA
import Derived.Test.YtflocdghpnjoaaaRegT
namespace Go.Proofs.Ytflocdghpnjoaaa
set_option linter.unusedVariables false
set_option linter.unusedSimpArgs false
open Go.RowKit Go.Maps
structure TabAt (w : World) (g : Nat) (mb : Option Nat) (l : List (Int × Int)) (last : Nat) : Prop where
  blk : Bk w g 50 #[.map mb, .int .i64 last]
  mp : MapIs w mb l
  ne : ∀ b, mb = some b → b ≠ g
  rise : Rise l
  keys : ∀ p ∈ l, 1 ≤ p.1 ∧ p.1 ≤ last ∧ 1 ≤ p.2 ∧ p.2 ≤ 9223372036854775807
  lim : last ≤ 1000000
  len : l.length ≤ 256
/-- What a table's methods may turn. -/
def Own2 (g : Nat) (mb : Option Nat) (k : Nat) : Prop := k = g ∨ mb = some k
theorem TabAt.kept {S : Nat → Prop} {w w' : World} {g : Nat} {mb : Option Nat} {l : List (Int × Int)} {last : Nat} (h : TabAt w g mb l last) (hk : Kept S w w') (hg : ¬ S g) (hm : ∀ b, mb = some b → ¬ S b) : TabAt w' g mb l last :=
  ⟨hk.bk h.blk hg, h.mp.kept hk hm, h.ne, h.rise, h.keys, h.lim, h.len⟩
theorem TabAt.below {w w' : World} {g : Nat} {mb : Option Nat} {l : List (Int × Int)} {last : Nat} (h : TabAt w g mb l last) (hb : Below w.heap.size w w') : TabAt w' g mb l last :=
  h.kept (Kept.of_below hb (fun _ => False)) (fun h => h) (fun _ _ h => h)
theorem TabAt.wfk {w : World} {g : Nat} {mb : Option Nat} {l : List (Int × Int)} {last : Nat} (h : TabAt w g mb l last) : ∀ p ∈ l, (Lit.int .i64 p.1).wf = true ∧ (Lit.int .i64 p.2).wf = true := fun p hp => by
  have := h.keys p hp
  have := h.lim
  simp [Lit.wf, IntKind.min, IntKind.max, IntKind.signed, IntKind.bits]; omega
theorem wfI {n : Int} (h1 : -9223372036854775808 ≤ n) (h2 : n ≤ 9223372036854775807) : (Lit.int .i64 n).wf = true := by
  simp [Lit.wf, IntKind.min, IntKind.max, IntKind.signed, IntKind.bits]; omega
set_option maxHeartbeats 400000
set_option maxRecDepth 100000
theorem hnew_c (w : World) : Calls Try.prog 8 #[] w fun e w' => ∃ g, e = .returned (.pointer (some ⟨g, 0, none⟩)) ∧ g = w.heap.size ∧ TabAt w' g none [] 0 ∧ Below w.heap.size w w' := by
  go_enter Try.func8, Try.ntmps8
  go_wp2
  go_ret
  exact ⟨_, rfl, rfl, ⟨Bk.new _ _ _, rfl, (fun b e => by cases e), List.Pairwise.nil, (fun p hp => by cases hp), by omega, by simp⟩, Gw.alloc _ _⟩
theorem hget_c (w : World) (g : Nat) (mb : Option Nat) (l : List (Int × Int)) (last : Nat) (h : TabAt w g mb l last) (k : Int) (hk : (Lit.int .i64 k).wf = true) :
    Calls Try.prog 18 #[.pointer (some ⟨g, 0, none⟩), .int .i64 k] w fun e w' => e = .returned (.tuple #[.int .i64 ((lookI l k).getD 0), .bool (lookI l k).isSome]) ∧ w' = w := by
  obtain ⟨c0, c1⟩ := h.blk.two
  have hlk := h.mp.look_ok hk
  clear h hk
  obtain ⟨v, hv⟩ : ∃ v, v = (lookI l k).getD 0 := ⟨_, rfl⟩
  obtain ⟨b, hb⟩ : ∃ b, b = (lookI l k).isSome := ⟨_, rfl⟩
  rw [← hv, ← hb] at hlk ⊢
  clear hv hb
  go_enter Try.func18, Try.ntmps18
  go_wp2
  go_ret2
  exact ⟨rfl, rfl⟩
theorem hclose_c (w : World) (g : Nat) (mb : Option Nat) (l : List (Int × Int)) (last : Nat) (h : TabAt w g mb l last) (k : Int) (hk : (Lit.int .i64 k).wf = true) :
    Calls Try.prog 12 #[.pointer (some ⟨g, 0, none⟩), .int .i64 k] w fun e w' => e = .returned (.bool (lookI l k).isSome) ∧ TabAt w' g mb (offI l k) last ∧ Kept (Own2 g mb) w w' := by
  obtain ⟨c0, c1⟩ := h.blk.two
  have hlk := h.mp.look_ok hk
  have H := Lib.hid h
  have HK := Lib.hid hk
  clear h hk
  obtain ⟨v, hv⟩ : ∃ v, v = (lookI l k).getD 0 := ⟨_, rfl⟩
  obtain ⟨b, hb⟩ : ∃ b, b = (lookI l k).isSome := ⟨_, rfl⟩
  rw [← hv, ← hb] at hlk
  rw [← hb]
  clear hv hb
  go_enter Try.func12, Try.ntmps12
  go_wp2_with (at_delete; refine wp_drop_is rfl (.tmp 19) (.tmp 20) rfl rfl H.out.mp k rfl HK.out ?_; intro w1 h1 k1; have HM := Lib.hid h1; have HKE := Lib.hid k1; clear h1 k1)
  go_ret
  refine ⟨rfl, ⟨HKE.out.bk H.out.blk (fun e => H.out.ne _ e rfl), HM.out, H.out.ne, H.out.rise.off k, fun p hp => H.out.keys p (List.mem_filter.1 hp).1, H.out.lim, Nat.le_trans (List.length_filter_le _ _) H.out.len⟩, HKE.out.more (fun _ e => .inr e)⟩
theorem hopen_arg (w : World) (g : Nat) (n : Int) (hn : n < 1) : Calls Try.prog 9 #[.pointer (some ⟨g, 0, none⟩), .int .i64 n] w fun e w' => e = .returned (.tuple #[.int .i64 0, .int .i64 1]) ∧ w' = w := by
  go_enter Try.func9, Try.ntmps9
  go_wp2
  go_ret2
  exact ⟨rfl, rfl⟩
theorem hopen_full (w : World) (g : Nat) (mb : Option Nat) (l : List (Int × Int)) (last : Nat) (h : TabAt w g mb l last) (n : Int) (hn : 1 ≤ n) (hl : 256 ≤ l.length) :
    Calls Try.prog 9 #[.pointer (some ⟨g, 0, none⟩), .int .i64 n] w fun e w' => e = .returned (.tuple #[.int .i64 0, .int .i64 6]) ∧ w' = w := by
  obtain ⟨c0, c1⟩ := h.blk.two
  have hlen := h.mp.len
  have t1 : decide (n < 1) = false := by simp; omega
  have t2 : decide ((256 : Int) ≤ (l.length : Int)) = true := by simp; omega
  clear h hn hl
  go_enter Try.func9, Try.ntmps9
  go_wp2
  go_ret2
  exact ⟨rfl, rfl⟩
theorem ho_reg (Q : Exit → Act → World → Prop) (a0 : Act) (w : World) (g b : Nat) (k n : Int) (hg : g < w.heap.size) (c0 : w.cell? ⟨g, 0, none⟩ = some (.map (some b))) (c1 : w.cell? ⟨g, 1, none⟩ = some (.int .i64 k)) (hsz : a0.tmps.size = 43) (sl0 : a0.tmps.getD 0 undef = .pointer (some ⟨g, 0, none⟩)) (sl1 : a0.tmps.getD 1 undef = .int .i64 n)
    (fin : ∀ (vals : Nat → Value) (w1 : World), Below w.heap.size w w1 → (IsV (.map (some b))) (vals 3) w1 → (IsV (.int .i64 k)) (vals 7) w1 → (IsV (.int .i64 n)) (vals 8) w1 → wpList Try.prog #[{ dst := none, op := Go.Op.mapUpdate 48 (Go.Operand.tmp 33) (Go.Operand.tmp 37) (Go.Operand.tmp 38), type := 0, pos := "", after := #[], guard := none }] Q [{ dst := none, op := Go.Op.mapUpdate 48 (Go.Operand.tmp 33) (Go.Operand.tmp 37) (Go.Operand.tmp 38), type := 0, pos := "", after := #[], guard := none }] (putD vals [30, 31, 32, 33, 34, 35, 36, 37, 38] 0 a0) w1) :
    (Code.region 8 (regIn Try.f9 8) true).wp Try.prog Q a0 w := by
  refine region_by_tail (m := 9) (G := fun w w1 => Below w.heap.size w w1) [IsV (.pointer (some ⟨g, 0, none⟩)),
    IsV (.pointer (some ⟨g, 0, none⟩)),
    IsV (.pointer (some ⟨g, 0, none⟩)),
    IsV (.map (some b)),
    IsV (.pointer (some ⟨g, 0, none⟩)),
    IsV (.pointer (some ⟨g, 0, none⟩)),
    IsV (.pointer (some ⟨g, 1, none⟩)),
    IsV (.int .i64 k),
    IsV (.int .i64 n)]
    [30, 31, 32, 33, 34, 35, 36, 37, 38] (by kernel_rfl) (Gw.drew _) Gw.trans (by rw [hsz]; kernel_rfl) (by kernel_rfl) ?_ ?_ ?_
  · intro f hf
    simp only [List.mem_cons, List.not_mem_nil, or_false] at hf
    rcases hf with rfl | rfl | rfl | rfl | rfl | rfl | rfl | rfl | rfl <;> intro v a b h g <;> first | exact IsV.mono h
  · refine ⟨?_, ?_, ?_, ?_, ?_, ?_, ?_, ?_, ?_, trivial⟩
    · exact owes_mv 0 (by kernel_rfl) (by kernel_rfl) (by kernel_rfl) sl0 (fun _ => rfl)
    · refine owes_v (Go.Op.nilCheck (Go.Operand.tmp 30)) 0 [0] (by kernel_rfl) (by kernel_rfl) (by kernel_rfl) rfl fun vals w1 ρ hG hF hρ hcst hfun => ?_
      have e30 : ρ (.tmp 30) = .pointer (some ⟨g, 0, none⟩) := ((hρ 30).trans (slotJ [0] (by rw [hsz]; decide) (by kernel_rfl))).trans (hF 0 (by decide))
      clear hρ hF hcst hfun sl0 sl1 fin
      exact opv_val (by go_simp <;> rfl) ⟨gw_self _, rfl⟩
    · refine owes_v (Go.Op.fieldAddr 50 (Go.Operand.tmp 31) 0) 0 [1] (by kernel_rfl) (by kernel_rfl) (by kernel_rfl) rfl fun vals w1 ρ hG hF hρ hcst hfun => ?_
      have e31 : ρ (.tmp 31) = .pointer (some ⟨g, 0, none⟩) := ((hρ 31).trans (slotJ [1] (by rw [hsz]; decide) (by kernel_rfl))).trans (hF 1 (by decide))
      clear hρ hF hcst hfun sl0 sl1 fin
      exact opv_val (by go_simp <;> rfl) ⟨gw_self _, rfl⟩
    · refine owes_v (Go.Op.load 48 (Go.Operand.tmp 32)) 48 [2] (by kernel_rfl) (by kernel_rfl) (by kernel_rfl) rfl fun vals w1 ρ hG hF hρ hcst hfun => ?_
      have e32 : ρ (.tmp 32) = .pointer (some ⟨g, 0, none⟩) := ((hρ 32).trans (slotJ [2] (by rw [hsz]; decide) (by kernel_rfl))).trans (hF 2 (by decide))
      have k := (hG.cell (p := ⟨g, 0, none⟩) hg).trans c0
      clear hρ hF hcst hfun sl0 sl1 fin
      exact opv_val (by go_simp <;> rfl) ⟨gw_self _, rfl⟩
    · exact owes_mv 0 (by kernel_rfl) (by kernel_rfl) (by kernel_rfl) sl0 (fun _ => rfl)
    · refine owes_v (Go.Op.nilCheck (Go.Operand.tmp 34)) 0 [4] (by kernel_rfl) (by kernel_rfl) (by kernel_rfl) rfl fun vals w1 ρ hG hF hρ hcst hfun => ?_
      have e34 : ρ (.tmp 34) = .pointer (some ⟨g, 0, none⟩) := ((hρ 34).trans (slotJ [4] (by rw [hsz]; decide) (by kernel_rfl))).trans (hF 4 (by decide))
      clear hρ hF hcst hfun sl0 sl1 fin
      exact opv_val (by go_simp <;> rfl) ⟨gw_self _, rfl⟩
    · refine owes_v (Go.Op.fieldAddr 50 (Go.Operand.tmp 35) 1) 0 [5] (by kernel_rfl) (by kernel_rfl) (by kernel_rfl) rfl fun vals w1 ρ hG hF hρ hcst hfun => ?_
      have e35 : ρ (.tmp 35) = .pointer (some ⟨g, 0, none⟩) := ((hρ 35).trans (slotJ [5] (by rw [hsz]; decide) (by kernel_rfl))).trans (hF 5 (by decide))
      clear hρ hF hcst hfun sl0 sl1 fin
      exact opv_val (by go_simp <;> rfl) ⟨gw_self _, rfl⟩
    · refine owes_v (Go.Op.load 3 (Go.Operand.tmp 36)) 3 [6] (by kernel_rfl) (by kernel_rfl) (by kernel_rfl) rfl fun vals w1 ρ hG hF hρ hcst hfun => ?_
      have e36 : ρ (.tmp 36) = .pointer (some ⟨g, 1, none⟩) := ((hρ 36).trans (slotJ [6] (by rw [hsz]; decide) (by kernel_rfl))).trans (hF 6 (by decide))
      have k := (hG.cell (p := ⟨g, 1, none⟩) hg).trans c1
      clear hρ hF hcst hfun sl0 sl1 fin
      exact opv_val (by go_simp <;> rfl) ⟨gw_self _, rfl⟩
    · exact owes_mv 1 (by kernel_rfl) (by kernel_rfl) (by kernel_rfl) sl1 (fun _ => rfl)
  · intro vals w1 hG hF
    exact last_list (by kernel_rfl) (by kernel_rfl) (by kernel_rfl) (fin vals w1 hG (hF 3 (by decide +kernel)) (hF 7 (by decide +kernel)) (hF 8 (by decide +kernel)))
/-- The map is there, and holds l. -/
theorem hopen_some (w : World) (g b : Nat) (l : List (Int × Int)) (last : Nat) (h : TabAt w g (some b) l last) (n : Int) (hn : 1 ≤ n) (hM : n ≤ 9223372036854775807) (hl : l.length < 256) (hla : last < 1000000) :
    Calls Try.prog 9 #[.pointer (some ⟨g, 0, none⟩), .int .i64 n] w fun e w' => e = .returned (.tuple #[.int .i64 ((last + 1 : Nat) : Int), .int .i64 0]) ∧ TabAt w' g (some b) (l ++ [(((last + 1 : Nat) : Int), n)]) (last + 1) ∧ Kept (Own2 g (some b)) w w' := by
  obtain ⟨c0, c1⟩ := h.blk.two
  have hfz := h.blk.free 1
  have hlen := h.mp.len
  have t1 : decide (n < 1) = false := by simp; omega
  have t2 : decide ((256 : Int) ≤ (l.length : Int)) = false := by simp; omega
  have hnn := MapIs.isnil (some b)
  have kw : IntKind.i64.wrap ((last : Int) + 1) = (last : Int) + 1 := IntWalk.i64_in _ (by omega)
  have HB := Lib.hid (show Bk (w.setCell ⟨g, 1, none⟩ (.int .i64 ((last : Int) + 1))) g 50 #[.map (some b), .int .i64 ((last : Int) + 1)] from h.blk.set 1 _)
  have HK := Lib.hid (Kept.set w g 1 (.int .i64 ((last : Int) + 1)))
  have HM := Lib.hid (h.mp.kept HK.out (fun c e => h.ne c e))
  have HWF := Lib.hid (show (Lit.int .i64 ((last : Int) + 1)).wf = true ∧ (Lit.int .i64 n).wf = true ∧ l.length ≤ 1000000 from ⟨wfI (by omega) (by omega), wfI (by omega) hM, by omega⟩)
  have HX := Lib.hid (And.intro h (And.intro hn (And.intro hM (And.intro hl hla))))
  clear h hn hM hl hla
  go_enter Try.func9, Try.ntmps9
  go_wp2_with fail
  obtain ⟨d0, d1⟩ := HB.out.two
  refine ho_reg _ _ _ g b ((last : Int) + 1) n HB.out.lt d0 d1 rfl rfl rfl ?_
  intro vals w1 hG h33 h37 h38
  unfold IsV at h33 h37 h38
  simp only [putD, Act.put, List.setIfInBounds_toArray, List.set_cons_zero, List.set_cons_succ, h33, h37, h38]
  have HB1 := Lib.hid (HB.out.below hG HB.out.lt)
  have HM1 := Lib.hid (HM.out.kept (Kept.of_below hG (fun _ => False)) (fun _ _ h => h))
  have HK1 := Lib.hid (HK.out.trans (Kept.of_below hG _))
  clear h33 h37 h38 d0 d1 hG c0 c1 hfz
  go_wp2_with (at_mapUpdate; refine wp_put_is rfl (.tmp 33) (.tmp 37) (.tmp 38) rfl rfl HM1.out _ _ rfl rfl HWF.out.1 HWF.out.2.1 HWF.out.2.2 ?_; intro w2 h2 k2; have HM2 := Lib.hid h2; have HK2 := Lib.hid k2; have HB2 := Lib.hid (k2.bk HB1.out (fun e => HX.out.1.ne _ e rfl)); clear h2 k2; obtain ⟨e0, e1⟩ := HB2.out.two)
  go_ret2
  obtain ⟨h, hn, hM, hl, hla⟩ := HX.out
  have e1 : (((last + 1 : Nat) : Int)) = (last : Int) + 1 := by omega
  have hk : ∀ p ∈ l, p.1 < (last : Int) + 1 := fun p hp => by have := h.keys p hp; omega
  refine ⟨by rw [e1]; rfl, ⟨?_, ?_, h.ne, ?_, ?_, by omega, by simp; omega⟩, ?_⟩
  · rw [e1]; exact HB2.out
  · rw [e1, ← put_end l _ n hk]; exact HM2.out
  · rw [e1]; exact h.rise.snoc hk
  · intro p hp
    rw [e1] at hp ⊢
    rcases List.mem_append.1 hp with hp | hp
    · have := h.keys p hp; omega
    · simp at hp; subst hp; simp; omega
  · exact (HK1.out.more (fun k e => .inl e)).trans (HK2.out.more (fun k e => .inr e))
end Go.Proofs.Ytflocdghpnjoaaa
