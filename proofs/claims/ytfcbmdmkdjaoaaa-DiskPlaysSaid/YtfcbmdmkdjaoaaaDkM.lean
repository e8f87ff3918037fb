/- disk.Disk's Write, where all is well. Conditions: lengths. -/
import Derived.Test.YtfcbmdmkdjaoaaaDkL
namespace Go.Proofs.Ytfcbmdmkdjaoaaa
set_option linter.unusedVariables false
set_option linter.unusedSimpArgs false
open Go.RowKit Go.Maps
set_option maxHeartbeats 800000
set_option maxRecDepth 100000
theorem dw_reg (Q : Exit → Act → World → Prop) (a0 : Act) (w : World) (g h mb P pc : Nat) (pA : Option Addr) (s : Int) (hg : g < w.heap.size) (hh : h < w.heap.size) (c2 : w.cell? ⟨g, 2, none⟩ = some (.slice pA P pc)) (c3 : w.cell? ⟨g, 3, none⟩ = some (.map (some mb))) (ch : w.cell? ⟨h, 0, none⟩ = some (.int .i64 s)) (hsz : a0.tmps.size = 80) (sl0 : a0.tmps.getD 0 undef = .pointer (some ⟨g, 0, none⟩)) (sl7 : a0.tmps.getD 7 undef = .pointer (some ⟨h, 0, none⟩))
    (fin : ∀ (vals : Nat → Value) (w1 : World), Below w.heap.size w w1 → (IsV (.map (some mb))) (vals 3) w1 → (IsV (.agg #[.int .i64 s])) (vals 4) w1 → (IsV (.int .i64 P)) (vals 9) w1 → wpList Try.prog #[{ dst := none, op := Go.Op.mapUpdate 62 (Go.Operand.tmp 66) (Go.Operand.tmp 67) (Go.Operand.tmp 72), type := 0, pos := "", after := #[], guard := none }] Q [{ dst := none, op := Go.Op.mapUpdate 62 (Go.Operand.tmp 66) (Go.Operand.tmp 67) (Go.Operand.tmp 72), type := 0, pos := "", after := #[], guard := none }] (putD vals [63, 64, 65, 66, 67, 68, 69, 70, 71, 72] 0 a0) w1) :
    (Code.region 12 (regIn Try.f10 12) true).wp Try.prog Q a0 w := by
  refine region_by_tail (m := 10) (G := fun w w1 => Below w.heap.size w w1) [IsV (.pointer (some ⟨g, 0, none⟩)),
    IsV (.pointer (some ⟨g, 0, none⟩)),
    IsV (.pointer (some ⟨g, 3, none⟩)),
    IsV (.map (some mb)),
    IsV (.agg #[.int .i64 s]),
    IsV (.pointer (some ⟨g, 0, none⟩)),
    IsV (.pointer (some ⟨g, 0, none⟩)),
    IsV (.pointer (some ⟨g, 2, none⟩)),
    IsV (.slice pA P pc),
    IsV (.int .i64 P)]
    [63, 64, 65, 66, 67, 68, 69, 70, 71, 72] (by kernel_rfl) (Gw.drew _) Gw.trans (by rw [hsz]; kernel_rfl) (by kernel_rfl) ?_ ?_ ?_
  · intro f hf
    simp only [List.mem_cons, List.not_mem_nil, or_false] at hf
    rcases hf with rfl | rfl | rfl | rfl | rfl | rfl | rfl | rfl | rfl | rfl <;> intro v a b h g <;> first | exact IsV.mono h
  · refine ⟨?_, ?_, ?_, ?_, ?_, ?_, ?_, ?_, ?_, ?_, trivial⟩
    · exact owes_mv 0 (by kernel_rfl) (by kernel_rfl) (by kernel_rfl) sl0 (fun _ => rfl)
    · refine owes_v (Go.Op.nilCheck (Go.Operand.tmp 63)) 0 [0] (by kernel_rfl) (by kernel_rfl) (by kernel_rfl) rfl fun vals w1 ρ hG hF hρ hcst hfun => ?_
      have e63 : ρ (.tmp 63) = .pointer (some ⟨g, 0, none⟩) := ((hρ 63).trans (slotJ [0] (by rw [hsz]; decide) (by kernel_rfl))).trans (hF 0 (by decide))
      clear hρ hF hcst hfun sl0 sl7 fin
      exact opv_val (by go_simp <;> rfl) ⟨gw_self _, rfl⟩
    · refine owes_v (Go.Op.fieldAddr 64 (Go.Operand.tmp 64) 3) 0 [1] (by kernel_rfl) (by kernel_rfl) (by kernel_rfl) rfl fun vals w1 ρ hG hF hρ hcst hfun => ?_
      have e64 : ρ (.tmp 64) = .pointer (some ⟨g, 0, none⟩) := ((hρ 64).trans (slotJ [1] (by rw [hsz]; decide) (by kernel_rfl))).trans (hF 1 (by decide))
      clear hρ hF hcst hfun sl0 sl7 fin
      exact opv_val (by go_simp <;> rfl) ⟨gw_self _, rfl⟩
    · refine owes_v (Go.Op.load 62 (Go.Operand.tmp 65)) 62 [2] (by kernel_rfl) (by kernel_rfl) (by kernel_rfl) rfl fun vals w1 ρ hG hF hρ hcst hfun => ?_
      have e65 : ρ (.tmp 65) = .pointer (some ⟨g, 3, none⟩) := ((hρ 65).trans (slotJ [2] (by rw [hsz]; decide) (by kernel_rfl))).trans (hF 2 (by decide))
      have k := (hG.cell (p := ⟨g, 3, none⟩) hg).trans c3
      clear hρ hF hcst hfun sl0 sl7 fin
      exact opv_val (by go_simp <;> rfl) ⟨gw_self _, rfl⟩
    · refine owes_v (Go.Op.load 67 (Go.Operand.tmp 7)) 67 [] (by kernel_rfl) (by kernel_rfl) (by kernel_rfl) rfl fun vals w1 ρ hG hF hρ hcst hfun => ?_
      have e7 : ρ (.tmp 7) = .pointer (some ⟨h, 0, none⟩) := ((hρ 7).trans (slotO [] (by kernel_rfl))).trans sl7
      have k := (hG.cell (p := ⟨h, 0, none⟩) hh).trans ch
      clear hρ hF hcst hfun sl0 sl7 fin
      exact opv_val (by go_simp <;> rfl) ⟨gw_self _, rfl⟩
    · exact owes_mv 0 (by kernel_rfl) (by kernel_rfl) (by kernel_rfl) sl0 (fun _ => rfl)
    · refine owes_v (Go.Op.nilCheck (Go.Operand.tmp 68)) 0 [5] (by kernel_rfl) (by kernel_rfl) (by kernel_rfl) rfl fun vals w1 ρ hG hF hρ hcst hfun => ?_
      have e68 : ρ (.tmp 68) = .pointer (some ⟨g, 0, none⟩) := ((hρ 68).trans (slotJ [5] (by rw [hsz]; decide) (by kernel_rfl))).trans (hF 5 (by decide))
      clear hρ hF hcst hfun sl0 sl7 fin
      exact opv_val (by go_simp <;> rfl) ⟨gw_self _, rfl⟩
    · refine owes_v (Go.Op.fieldAddr 64 (Go.Operand.tmp 69) 2) 0 [6] (by kernel_rfl) (by kernel_rfl) (by kernel_rfl) rfl fun vals w1 ρ hG hF hρ hcst hfun => ?_
      have e69 : ρ (.tmp 69) = .pointer (some ⟨g, 0, none⟩) := ((hρ 69).trans (slotJ [6] (by rw [hsz]; decide) (by kernel_rfl))).trans (hF 6 (by decide))
      clear hρ hF hcst hfun sl0 sl7 fin
      exact opv_val (by go_simp <;> rfl) ⟨gw_self _, rfl⟩
    · refine owes_v (Go.Op.load 61 (Go.Operand.tmp 70)) 61 [7] (by kernel_rfl) (by kernel_rfl) (by kernel_rfl) rfl fun vals w1 ρ hG hF hρ hcst hfun => ?_
      have e70 : ρ (.tmp 70) = .pointer (some ⟨g, 2, none⟩) := ((hρ 70).trans (slotJ [7] (by rw [hsz]; decide) (by kernel_rfl))).trans (hF 7 (by decide))
      have k := (hG.cell (p := ⟨g, 2, none⟩) hg).trans c2
      clear hρ hF hcst hfun sl0 sl7 fin
      exact opv_val (by go_simp <;> rfl) ⟨gw_self _, rfl⟩
    · refine owes_v (Go.Op.call { callee := Go.Callee.builtin Go.Builtin.len, args := #[Go.Operand.tmp 71], argTypes := #[61] }) 3 [8] (by kernel_rfl) (by kernel_rfl) (by kernel_rfl) rfl fun vals w1 ρ hG hF hρ hcst hfun => ?_
      have e71 : ρ (.tmp 71) = .slice pA P pc := ((hρ 71).trans (slotJ [8] (by rw [hsz]; decide) (by kernel_rfl))).trans (hF 8 (by decide))
      clear hρ hF hcst hfun sl0 sl7 fin
      exact opv_val (by go_simp <;> rfl) ⟨gw_self _, rfl⟩
  · intro vals w1 hG hF
    exact last_list (by kernel_rfl) (by kernel_rfl) (by kernel_rfl) (fin vals w1 hG (hF 3 (by decide +kernel)) (hF 4 (by decide +kernel)) (hF 9 (by decide +kernel)))
theorem infoW : (Try.prog.info? 70).map (fun i => (i.zero, i.size, i.bytes)) = some (some (.agg #[.int .i64 0, .slice none 0 0]), 2, 32) := by kernel_rfl
section
variable {w w' : World} {g : Nat} {x : DX} {d : DK}
theorem dwrite_ok (h : DiskAt w g x d) (s : Nat) (A : Option Addr) (bs : List (BitVec 8)) (c : Nat) (ho : d.off = false) (hs : s < d.secs) (hn : bs.length = d.size) (ha : d.armed ≠ 1) (hr : Rd b8 w w.heap.size A bs) (hA : ∀ a, A = some a → ¬ Md g x a.block) (hp1 : d.pend.length < 100000) (hp2 : d.writes < 1000000) :
    Calls Try.prog 10 #[.pointer (some ⟨g, 0, none⟩), .int .i64 s, .slice A bs.length c] w fun e w' => e = .returned (.int .i64 0) ∧ ∃ x', DiskAt w' g x' (({ d with armed := d.armed - 1 } : DK).push s bs) ∧ NextX g w x x' ∧ Kept (Md g x) w w' := by
  have HH := Lib.hid (dhas_c h s)
  rw [show (decide ((0 : Int) ≤ (s : Int)) && decide ((s : Int) < (d.secs : Int))) = true from by simp; omega] at HH
  have c4 := h.blk.eight.2.2.2.2.1
  rw [ho] at c4
  have HX := Lib.hid (And.intro h (And.intro hs (And.intro hn (And.intro hr (And.intro hA (And.intro hp1 hp2))))))
  have HB0 := Lib.hid (fun W (hb : Below w.heap.size w W) => (h.below hb).blk.eight)
  obtain ⟨S, hS⟩ : ∃ S, S = d.size := ⟨_, rfl⟩
  rw [← hS] at HB0
  have hnS : bs.length = S := by rw [hS]; exact hn
  obtain ⟨m, hm⟩ : ∃ m, m = d.armed := ⟨_, rfl⟩
  rw [← hm] at HB0 ha ⊢
  have hml := h.lim.2.2.1
  rw [← hm] at hml
  rw [hnS]
  have HS := Lib.hid (And.intro hS (And.intro hnS hm))
  have hsw : (0 : Int) ≤ (s : Int) ∧ (s : Int) ≤ 20000 := ⟨by omega, by have := h.sc; omega⟩
  obtain ⟨hs1, hs2⟩ := hsw
  have HWF := Lib.hid (show (Lit.int .i64 (s : Int)).wf = true from wfI (by omega) (by omega))
  have hPb : (d.pend.length : Int) ≤ 100000 := by omega
  have hWb : (d.writes : Int) ≤ 1000000 := by omega
  clear h ho hs hn hr hA hp1 hp2 hS hnS hm
  rcases Nat.eq_zero_or_pos m with h0 | h0
  · subst h0
    clear ha hml
    go_enter Try.func10, Try.ntmps10
    go_wp2_with fail
    refine Calls.mono HH.out ?_
    rintro e w1 ⟨rfl, b1⟩
    have HB := Lib.hid b1
    obtain ⟨c0, _, c2, c3, _, c5, _, c7⟩ := HB0.out w1 b1
    have H1 : Hid (DiskAt w1 g x { d with armed := 0 - 1 }) := by
      have e := (HX.out.1.below b1)
      have e2 := HS.out.2.2
      have e3 : ({ d with armed := 0 - 1 } : DK) = d := by
        show ({ d with armed := 0 } : DK) = d
        rw [e2]
      rw [e3]; exact e
    have HK1 := Lib.hid (Kept.of_below b1 (Md g x))
    clear b1
    have hpl := Gw.alloc w1 (.cells #[.int .i64 (s : Int)] 67)
    have hsz : w1.heap.size = w1.heap.size := by simp
    have HP := Lib.hid (show Bk (w1.alloc (.cells #[.int .i64 (s : Int)] 67)) w1.heap.size 67 #[.int .i64 (s : Int)] from hsz ▸ Bk.new w1 67 #[.int .i64 (s : Int)])
    have H2 := Lib.hid (H1.out.below hpl)
    have HK2 := Lib.hid (HK1.out.trans (Kept.of_below hpl (Md g x)))
    have HPB := Lib.hid (show ¬ Md g x w1.heap.size ∧ ¬ x.D w1.heap.size from ⟨fun e => by have := H1.out.lts _ (.inl e); omega, fun e => by have := H1.out.Dlt _ e; omega⟩)
    obtain ⟨p2, p3⟩ := And.intro (H2.out.blk.cell 2) (H2.out.blk.cell 3)
    clear hpl c2 c3 c7 hsz
    go_wp2_with fail
    have HCl := Lib.hid (fun W (hb : Below (w1.alloc (.cells #[.int .i64 (s : Int)] 67)).heap.size (w1.alloc (.cells #[.int .i64 (s : Int)] 67)) W) => show Calls Try.prog 29 #[.slice A S c] W (NewP b8 5 bs W) from by
      have k := HK2.out.trans (Kept.of_below hb (Md g x))
      have := clone_c bs A c W (k.rd HX.out.2.2.2.1 HX.out.2.2.2.2.1) (by have := HS.out.2.1; have := HX.out.1.sz; have := HS.out.1; omega)
      rw [HS.out.2.1] at this
      exact this)
    refine region_by_spineU 13 [7, 8, 9, 10, 11, 12, 13] [(0, 50, .pointer (some ⟨g, 0, none⟩)), (1, 51, .pointer (some ⟨g, 0, none⟩)), (2, 52, .pointer (some ⟨g, 0, none⟩)), (3, 53, .pointer (some ⟨g, 2, none⟩)), (4, 54, .slice x.pA d.pend.length x.pc), (5, 55, .agg #[.int .i64 s]), (6, 56, .slice A S c)]
      (fun W => W.cell? ⟨g, 2, none⟩ = some (.slice x.pA d.pend.length x.pc) ∧ W.cell? ⟨w1.heap.size, 0, none⟩ = some (.int .i64 s)) (by kernel_rfl) (by kernel_rfl) (by kernel_rfl) (by kernel_rfl) (by kernel_rfl) (by kernel_rfl) (by kernel_rfl) ⟨p2, HP.out.cell 0⟩ ?_ ?_
    · intro y hy V ρ hV hρ hcst
      obtain ⟨k2, k3⟩ := hV
      have e0 : ρ (.tmp 0) = .pointer (some ⟨g, 0, none⟩) := (hρ 0).trans (by kernel_rfl)
      have e2 : ρ (.tmp 2) = .slice A S c := (hρ 2).trans (by kernel_rfl)
      have e7 : ρ (.tmp 7) = .pointer (some ⟨w1.heap.size, 0, none⟩) := (hρ 7).trans (by kernel_rfl)
      have e50 : ρ (.tmp 50) = .pointer (some ⟨g, 0, none⟩) := (hρ 50).trans (by kernel_rfl)
      have e51 : ρ (.tmp 51) = .pointer (some ⟨g, 0, none⟩) := (hρ 51).trans (by kernel_rfl)
      have e52 : ρ (.tmp 52) = .pointer (some ⟨g, 0, none⟩) := (hρ 52).trans (by kernel_rfl)
      have e53 : ρ (.tmp 53) = .pointer (some ⟨g, 2, none⟩) := (hρ 53).trans (by kernel_rfl)
      clear hρ
      simp only [List.mem_cons, List.not_mem_nil, or_false] at hy
      rcases hy with rfl | rfl | rfl | rfl | rfl | rfl | rfl
      all_goals
        refine ⟨_, rfl, ?_⟩
        go_simp
        try rfl
    simp only [putA, putD, Act.put, List.setIfInBounds_toArray, List.set_cons_zero, List.set_cons_succ]
    refine spineU_list rfl rfl rfl ?_
    go_wp2_with fail
    refine Calls.mono (HCl.out _ (by first | exact Gw.drew _ | exact bdN (Below.refl _ _) 1)) ?_
    rintro e w3 ⟨A3, c3, rfl, hc3, ho3, b3⟩
    rw [HS.out.2.1] at ho3 hc3 ⊢
    have b3' : Below (w1.alloc (.cells #[.int .i64 (s : Int)] 67)).heap.size (w1.alloc (.cells #[.int .i64 (s : Int)] 67)) w3 := (Gw.drew _).trans b3
    have H3 := Lib.hid (H2.out.below b3')
    have HK3 := Lib.hid (HK2.out.trans (Kept.of_below b3' (Md g x)))
    have HP3 := Lib.hid (HP.out.below b3' (by simp))
    have HO3 := Lib.hid (show (∀ a, A3 = some a → w1.heap.size + 1 ≤ a.block ∧ a.block < w3.heap.size) ∧ Ow b8 5 w3 0 (.slice A3 S c3) bs ∧ S ≤ c3 from ⟨fun a e => by have := ow_addr ho3 a e; simp at this; exact this, ho3.mono (Nat.zero_le _), hc3⟩)
    have hw3 : w3.cell? ⟨g, 2, none⟩ = some (.slice x.pA d.pend.length x.pc) ∧ w3.cell? ⟨w1.heap.size, 0, none⟩ = some (.int .i64 s) := ⟨H3.out.blk.cell 2, HP3.out.cell 0⟩
    have HW3 := Lib.hid hw3
    have HL3 := Lib.hid (show w1.heap.size + 1 ≤ w3.heap.size from by have := b3'.size; simp at this; exact this)
    clear b3 b3' ho3 hc3 hw3 p2 p3 HCl
    go_wp2_with fail
    refine ⟨rfl, (by first | exact HW3.out | exact fun _ => HW3.out), ?_⟩
    refine spineU_list rfl rfl rfl ?_
    go_wp2_with fail
    refine ⟨rfl, (by first | exact HW3.out | exact fun _ => HW3.out), ?_⟩
    refine spineU_list rfl rfl rfl ?_
    go_wp2_with fail
    have hb4 := Gw.alloc w3 (.cells #[.int .i64 (s : Int), .slice A3 S c3] 70)
    have H4 := Lib.hid (H3.out.below hb4)
    have HK4 := Lib.hid (HK3.out.trans (Kept.of_below hb4 (Md g x)))
    have HP4 := Lib.hid (HP3.out.below hb4 HP3.out.lt)
    have hw4 : (w3.alloc (.cells #[.int .i64 (s : Int), .slice A3 S c3] 70)).cell? ⟨g, 2, none⟩ = some (.slice x.pA d.pend.length x.pc) ∧ (w3.alloc (.cells #[.int .i64 (s : Int), .slice A3 S c3] 70)).cell? ⟨w1.heap.size, 0, none⟩ = some (.int .i64 s) := ⟨H4.out.blk.cell 2, HP4.out.cell 0⟩
    have HW4 := Lib.hid hw4
    have HE4 := Lib.hid (Bk.new w3 70 #[.int .i64 (s : Int), .slice A3 S c3])
    clear hb4 hw4
    refine ⟨rfl, (by first | exact HW4.out | exact fun _ => HW4.out), ?_⟩
    refine spineU_list rfl rfl rfl ?_
    obtain ⟨ds, g1, g2, g3⟩ := H4.out.pend
    obtain ⟨i0, hi, hz0, hz1, hz2⟩ := info_parts infoW
    refine wp_appR 2 i0 Try.underlying61 hi hz0 hz1 hz2 (by rfl) (by decide) rfl (.tmp 54) (.tmp 59) rfl 0 _ d.pend.length _ rfl g2 ⟨w3.heap.size, 0, none⟩ 1 1 [.int .i64 s, .slice A3 S c3] rfl rfl (fun j u hu => ?_) (fun u hu => ?_) (by have := HX.out.2.2.2.2.2.1; unfold maxLen; omega) (by have := HX.out.2.2.2.2.2.1; omega) (Nat.zero_le _) ?_
    · have hj : j < 2 := by have := (List.getElem?_eq_some_iff.1 hu).1; simpa using this
      rw [addr_at, HE4.out.cell]
      rcases (show j = 0 ∨ j = 1 by omega) with rfl | rfl
      · simpa using hu
      · simpa using hu
    · simp only [List.mem_cons, List.not_mem_nil, or_false] at hu
      rcases hu with rfl | rfl <;> rfl
    intro v5 w5 ho5 hb5 hg5 hv5
    obtain ⟨A5, c5, rfl⟩ : ∃ A5 c5, v5 = .slice A5 (d.pend.length + 1) c5 := by
      rcases ho5.2 with ⟨_, e⟩ | ⟨q, cap, _, e, _⟩
      · omega
      · exact ⟨_, cap, e⟩
    have k45 := Kept.grown hg5
    have hgne : ¬ ((Value.slice x.pA d.pend.length x.pc).ownBlock = some g) := fun e => by obtain ⟨a, e1, e2⟩ := own_slice e; exact (H4.out.n4 a e1).1 e2.symm
    have B5 := Lib.hid (k45.bk H4.out.blk hgne)
    have P5 := Lib.hid (k45.bk HP4.out (fun e => by obtain ⟨a, e1, e2⟩ := own_slice e; exact HPB.out.1 (.inr (.inr (.inr ⟨a, e1, e2⟩)))))
    have hw5 : w5.cell? ⟨g, 2, none⟩ = some (.slice x.pA d.pend.length x.pc) ∧ w5.cell? ⟨w1.heap.size, 0, none⟩ = some (.int .i64 s) := ⟨B5.out.cell 2, P5.out.cell 0⟩
    have HW5 := Lib.hid hw5
    have HA5 := Lib.hid (And.intro ho5 (And.intro hg5 (And.intro hv5 (And.intro g1 g3))))
    have M5 := Lib.hid (k45.map_fn H4.out.map (fun e => by obtain ⟨a, e1, e2⟩ := own_slice e; exact (H4.out.n4 a e1).2.2 e2.symm))
    clear ho5 hb5 hg5 hv5 g1 g2 g3 hi hz0 hz1 hz2 hgne k45 hw5
    refine ⟨rfl, (by first | exact HW5.out | exact fun _ => HW5.out), ?_⟩
    refine spineU_list rfl rfl rfl ?_
    go_wp2_with fail
    refine ⟨rfl, (by first | exact HW5.out | exact fun _ => HW5.out), ?_⟩
    refine spineU_list rfl rfl rfl ?_
    go_wp2_with fail
    refine ⟨rfl, (by first | exact HW5.out | exact fun _ => HW5.out), ?_⟩
    refine spineU_list rfl rfl rfl ?_
    have c52 := B5.out.cell 2
    have f52 := B5.out.free 2
    have B6 := Lib.hid (B5.out.set 2 (.slice A5 (d.pend.length + 1) c5))
    have K6 := Lib.hid (Kept.set w5 g 2 (.slice A5 (d.pend.length + 1) c5))
    have P6 := Lib.hid (K6.out.bk P5.out (fun e => HPB.out.1 (.inl e)))
    have M6 := Lib.hid (M5.out.kept K6.out H4.out.n2)
    go_wp2_with fail
    refine ⟨rfl, trivial, ?_⟩
    unfold SpineU
    obtain ⟨b2, b3⟩ := And.intro (B6.out.cell 2) (B6.out.cell 3)
    clear c52 f52
    go_wp2_with fail
    refine dw_reg _ _ _ g w1.heap.size x.mb (d.pend.length + 1) c5 A5 (s : Int) B6.out.lt P6.out.lt b2 b3 (P6.out.cell 0) rfl rfl rfl ?_
    intro vals w7 hG h66 h67 h72
    unfold IsV at h66 h67 h72
    simp only [putD, Act.put, List.setIfInBounds_toArray, List.set_cons_zero, List.set_cons_succ, h66, h67, h72]
    have K7 := Lib.hid hG
    have B7 := Lib.hid (B6.out.below hG B6.out.lt)
    have M7 := Lib.hid (M6.out.kept (Kept.of_below hG (fun _ => False)) (fun h => h))
    clear h66 h67 h72 hG b2 b3
    have hwf2 : (Lit.int .i64 ((d.pend.length : Int) + 1)).wf = true := wfI (by omega) (by omega)
    have HW2 := Lib.hid hwf2
    have HPL := Lib.hid (show d.pend.length ≤ 1000000 from by omega)
    clear hwf2
    go_wp2_with (at_mapUpdate; refine wp_put_fn rfl (.tmp 66) (.tmp 67) (.tmp 72) rfl rfl M7.out (s : Int) ((d.pend.length : Int) + 1) rfl rfl HWF.out HW2.out HPL.out ?_; intro w8 h8 k8; have M8 := Lib.hid h8; have K8 := Lib.hid k8; have B8 := Lib.hid (k8.bk B7.out (fun e => by injection e with e; exact H4.out.n2 e)); clear h8 k8; obtain c77 := B8.out.cell 7; have f77 := B8.out.free 7; have B9 := Lib.hid (B8.out.set 7 (.int .i64 ((d.writes : Int) + 1))); have K9 := Lib.hid (Kept.set w8 g 7 (.int .i64 ((d.writes : Int) + 1))))
    go_ret
    obtain ⟨ho5, hg5, hv5, g1, g3⟩ := HA5.out
    obtain ⟨h0, hs, hn, hr, hA, hp1, hp2⟩ := HX.out
    have hfin := DiskAt.push (w := w) (w4 := w3.alloc (.cells #[.int .i64 (s : Int), .slice A3 S c3] 70)) (w5 := w5) (w7 := w7) (w8 := w8) (s := s) (bs := bs) (A' := A3) (A5 := A5) (c' := c3) (c5 := c5) H4.out (by have := HK4.out.size; exact this) hs hn (by rw [HS.out.2.1]; exact HO3.out.2.2)
      (fun a e => by have := (HO3.out.1 a e).1; have := HK1.out.size; have hs1 : w1.heap.size = w1.heap.size := (by simp); omega)
      (fun a e => ⟨by have := (HO3.out.1 a e).2; simp; omega, fun f => by have := H1.out.lts _ f; have := (HO3.out.1 a e).1; have hs1 : w1.heap.size = w1.heap.size := (by simp); omega⟩)
      (((show Rd b8 w3 w3.heap.size A3 bs from HO3.out.2.1.rd2).alloc (Nat.le_refl _) _).more (by simp)) ds g1 g3 (by rw [HS.out.2.1]; exact ho5) hg5 hv5 K6.out K7.out K8.out K9.out B9.out (by rw [newF_snoc]; exact M8.out) hp1 hp2
    exact ⟨rfl, _, hfin.1, hfin.2.1, HK4.out.trans hfin.2.2⟩
  · have ha2 : 2 ≤ m := by omega
    have t1 : ((m : Int) == 1) = false := by simp; omega
    have t2 : decide ((0 : Int) < (m : Int)) = true := by simp; omega
    have q1 : (m : Int) ≤ 9223372036854775807 := by omega
    have q2 : (2 : Int) ≤ (m : Int) := by omega
    have q3 : ¬ m = 1 := by omega
    have q4 : 0 < m := by omega
    clear ha hml h0
    go_enter Try.func10, Try.ntmps10
    go_wp2_with fail
    refine Calls.mono HH.out ?_
    rintro e w1 ⟨rfl, b1⟩
    have HB := Lib.hid b1
    obtain ⟨c0, _, _, _, _, c5, _, _⟩ := HB0.out w1 b1
    have e0 := HX.out.1.below b1
    have f5 := e0.blk.free 5
    have hkk := Kept.set w1 g 5 (.int .i64 ((m : Int) - 1))
    have hbb := e0.blk.set 5 (.int .i64 ((m : Int) - 1))
    have H1 : Hid (DiskAt (w1.setCell ⟨g, 5, none⟩ (.int .i64 ((m : Int) - 1))) g x { d with armed := m - 1 }) :=
      Lib.hid (e0.flags hkk d.off (m - 1) d.writes (by omega) e0.lim.2.1 (by rw [show ((m - 1 : Nat) : Int) = (m : Int) - 1 by omega]; exact hbb))
    have HK1 := Lib.hid ((Kept.of_below b1 (Md g x)).trans (hkk.more (fun k e => .inl e)))
    obtain ⟨_, _, c2, c3, _, _, _, c7⟩ := H1.out.blk.eight
    clear b1 e0 hkk hbb
    have hpl := Gw.alloc (w1.setCell ⟨g, 5, none⟩ (.int .i64 ((m : Int) - 1))) (.cells #[.int .i64 (s : Int)] 67)
    have hsz : (w1.setCell ⟨g, 5, none⟩ (.int .i64 ((m : Int) - 1))).heap.size = w1.heap.size := by simp
    have HP := Lib.hid (show Bk ((w1.setCell ⟨g, 5, none⟩ (.int .i64 ((m : Int) - 1))).alloc (.cells #[.int .i64 (s : Int)] 67)) w1.heap.size 67 #[.int .i64 (s : Int)] from hsz ▸ Bk.new (w1.setCell ⟨g, 5, none⟩ (.int .i64 ((m : Int) - 1))) 67 #[.int .i64 (s : Int)])
    have H2 := Lib.hid (H1.out.below hpl)
    have HK2 := Lib.hid (HK1.out.trans (Kept.of_below hpl (Md g x)))
    have HPB := Lib.hid (show ¬ Md g x w1.heap.size ∧ ¬ x.D w1.heap.size from ⟨fun e => by have := H1.out.lts _ (.inl e); omega, fun e => by have := H1.out.Dlt _ e; omega⟩)
    obtain ⟨p2, p3⟩ := And.intro (H2.out.blk.cell 2) (H2.out.blk.cell 3)
    clear hpl c2 c3 c7 hsz
    go_wp2_with fail
    have HCl := Lib.hid (fun W (hb : Below ((w1.setCell ⟨g, 5, none⟩ (.int .i64 ((m : Int) - 1))).alloc (.cells #[.int .i64 (s : Int)] 67)).heap.size ((w1.setCell ⟨g, 5, none⟩ (.int .i64 ((m : Int) - 1))).alloc (.cells #[.int .i64 (s : Int)] 67)) W) => show Calls Try.prog 29 #[.slice A S c] W (NewP b8 5 bs W) from by
      have k := HK2.out.trans (Kept.of_below hb (Md g x))
      have := clone_c bs A c W (k.rd HX.out.2.2.2.1 HX.out.2.2.2.2.1) (by have := HS.out.2.1; have := HX.out.1.sz; have := HS.out.1; omega)
      rw [HS.out.2.1] at this
      exact this)
    refine region_by_spineU 13 [7, 8, 9, 10, 11, 12, 13] [(0, 50, .pointer (some ⟨g, 0, none⟩)), (1, 51, .pointer (some ⟨g, 0, none⟩)), (2, 52, .pointer (some ⟨g, 0, none⟩)), (3, 53, .pointer (some ⟨g, 2, none⟩)), (4, 54, .slice x.pA d.pend.length x.pc), (5, 55, .agg #[.int .i64 s]), (6, 56, .slice A S c)]
      (fun W => W.cell? ⟨g, 2, none⟩ = some (.slice x.pA d.pend.length x.pc) ∧ W.cell? ⟨w1.heap.size, 0, none⟩ = some (.int .i64 s)) (by kernel_rfl) (by kernel_rfl) (by kernel_rfl) (by kernel_rfl) (by kernel_rfl) (by kernel_rfl) (by kernel_rfl) ⟨p2, HP.out.cell 0⟩ ?_ ?_
    · intro y hy V ρ hV hρ hcst
      obtain ⟨k2, k3⟩ := hV
      have e0 : ρ (.tmp 0) = .pointer (some ⟨g, 0, none⟩) := (hρ 0).trans (by kernel_rfl)
      have e2 : ρ (.tmp 2) = .slice A S c := (hρ 2).trans (by kernel_rfl)
      have e7 : ρ (.tmp 7) = .pointer (some ⟨w1.heap.size, 0, none⟩) := (hρ 7).trans (by kernel_rfl)
      have e50 : ρ (.tmp 50) = .pointer (some ⟨g, 0, none⟩) := (hρ 50).trans (by kernel_rfl)
      have e51 : ρ (.tmp 51) = .pointer (some ⟨g, 0, none⟩) := (hρ 51).trans (by kernel_rfl)
      have e52 : ρ (.tmp 52) = .pointer (some ⟨g, 0, none⟩) := (hρ 52).trans (by kernel_rfl)
      have e53 : ρ (.tmp 53) = .pointer (some ⟨g, 2, none⟩) := (hρ 53).trans (by kernel_rfl)
      clear hρ
      simp only [List.mem_cons, List.not_mem_nil, or_false] at hy
      rcases hy with rfl | rfl | rfl | rfl | rfl | rfl | rfl
      all_goals
        refine ⟨_, rfl, ?_⟩
        go_simp
        try rfl
    simp only [putA, putD, Act.put, List.setIfInBounds_toArray, List.set_cons_zero, List.set_cons_succ]
    refine spineU_list rfl rfl rfl ?_
    go_wp2_with fail
    refine Calls.mono (HCl.out _ (by first | exact Gw.drew _ | exact bdN (Below.refl _ _) 1)) ?_
    rintro e w3 ⟨A3, c3, rfl, hc3, ho3, b3⟩
    rw [HS.out.2.1] at ho3 hc3 ⊢
    have b3' : Below ((w1.setCell ⟨g, 5, none⟩ (.int .i64 ((m : Int) - 1))).alloc (.cells #[.int .i64 (s : Int)] 67)).heap.size ((w1.setCell ⟨g, 5, none⟩ (.int .i64 ((m : Int) - 1))).alloc (.cells #[.int .i64 (s : Int)] 67)) w3 := (Gw.drew _).trans b3
    have H3 := Lib.hid (H2.out.below b3')
    have HK3 := Lib.hid (HK2.out.trans (Kept.of_below b3' (Md g x)))
    have HP3 := Lib.hid (HP.out.below b3' (by simp))
    have HO3 := Lib.hid (show (∀ a, A3 = some a → w1.heap.size + 1 ≤ a.block ∧ a.block < w3.heap.size) ∧ Ow b8 5 w3 0 (.slice A3 S c3) bs ∧ S ≤ c3 from ⟨fun a e => by have := ow_addr ho3 a e; simp at this; exact this, ho3.mono (Nat.zero_le _), hc3⟩)
    have hw3 : w3.cell? ⟨g, 2, none⟩ = some (.slice x.pA d.pend.length x.pc) ∧ w3.cell? ⟨w1.heap.size, 0, none⟩ = some (.int .i64 s) := ⟨H3.out.blk.cell 2, HP3.out.cell 0⟩
    have HW3 := Lib.hid hw3
    have HL3 := Lib.hid (show w1.heap.size + 1 ≤ w3.heap.size from by have := b3'.size; simp at this; exact this)
    clear b3 b3' ho3 hc3 hw3 p2 p3 HCl
    go_wp2_with fail
    refine ⟨rfl, (by first | exact HW3.out | exact fun _ => HW3.out), ?_⟩
    refine spineU_list rfl rfl rfl ?_
    go_wp2_with fail
    refine ⟨rfl, (by first | exact HW3.out | exact fun _ => HW3.out), ?_⟩
    refine spineU_list rfl rfl rfl ?_
    go_wp2_with fail
    have hb4 := Gw.alloc w3 (.cells #[.int .i64 (s : Int), .slice A3 S c3] 70)
    have H4 := Lib.hid (H3.out.below hb4)
    have HK4 := Lib.hid (HK3.out.trans (Kept.of_below hb4 (Md g x)))
    have HP4 := Lib.hid (HP3.out.below hb4 HP3.out.lt)
    have hw4 : (w3.alloc (.cells #[.int .i64 (s : Int), .slice A3 S c3] 70)).cell? ⟨g, 2, none⟩ = some (.slice x.pA d.pend.length x.pc) ∧ (w3.alloc (.cells #[.int .i64 (s : Int), .slice A3 S c3] 70)).cell? ⟨w1.heap.size, 0, none⟩ = some (.int .i64 s) := ⟨H4.out.blk.cell 2, HP4.out.cell 0⟩
    have HW4 := Lib.hid hw4
    have HE4 := Lib.hid (Bk.new w3 70 #[.int .i64 (s : Int), .slice A3 S c3])
    clear hb4 hw4
    refine ⟨rfl, (by first | exact HW4.out | exact fun _ => HW4.out), ?_⟩
    refine spineU_list rfl rfl rfl ?_
    obtain ⟨ds, g1, g2, g3⟩ := H4.out.pend
    obtain ⟨i0, hi, hz0, hz1, hz2⟩ := info_parts infoW
    refine wp_appR 2 i0 Try.underlying61 hi hz0 hz1 hz2 (by rfl) (by decide) rfl (.tmp 54) (.tmp 59) rfl 0 _ d.pend.length _ rfl g2 ⟨w3.heap.size, 0, none⟩ 1 1 [.int .i64 s, .slice A3 S c3] rfl rfl (fun j u hu => ?_) (fun u hu => ?_) (by have := HX.out.2.2.2.2.2.1; unfold maxLen; omega) (by have := HX.out.2.2.2.2.2.1; omega) (Nat.zero_le _) ?_
    · have hj : j < 2 := by have := (List.getElem?_eq_some_iff.1 hu).1; simpa using this
      rw [addr_at, HE4.out.cell]
      rcases (show j = 0 ∨ j = 1 by omega) with rfl | rfl
      · simpa using hu
      · simpa using hu
    · simp only [List.mem_cons, List.not_mem_nil, or_false] at hu
      rcases hu with rfl | rfl <;> rfl
    intro v5 w5 ho5 hb5 hg5 hv5
    obtain ⟨A5, c5, rfl⟩ : ∃ A5 c5, v5 = .slice A5 (d.pend.length + 1) c5 := by
      rcases ho5.2 with ⟨_, e⟩ | ⟨q, cap, _, e, _⟩
      · omega
      · exact ⟨_, cap, e⟩
    have k45 := Kept.grown hg5
    have hgne : ¬ ((Value.slice x.pA d.pend.length x.pc).ownBlock = some g) := fun e => by obtain ⟨a, e1, e2⟩ := own_slice e; exact (H4.out.n4 a e1).1 e2.symm
    have B5 := Lib.hid (k45.bk H4.out.blk hgne)
    have P5 := Lib.hid (k45.bk HP4.out (fun e => by obtain ⟨a, e1, e2⟩ := own_slice e; exact HPB.out.1 (.inr (.inr (.inr ⟨a, e1, e2⟩)))))
    have hw5 : w5.cell? ⟨g, 2, none⟩ = some (.slice x.pA d.pend.length x.pc) ∧ w5.cell? ⟨w1.heap.size, 0, none⟩ = some (.int .i64 s) := ⟨B5.out.cell 2, P5.out.cell 0⟩
    have HW5 := Lib.hid hw5
    have HA5 := Lib.hid (And.intro ho5 (And.intro hg5 (And.intro hv5 (And.intro g1 g3))))
    have M5 := Lib.hid (k45.map_fn H4.out.map (fun e => by obtain ⟨a, e1, e2⟩ := own_slice e; exact (H4.out.n4 a e1).2.2 e2.symm))
    clear ho5 hb5 hg5 hv5 g1 g2 g3 hi hz0 hz1 hz2 hgne k45 hw5
    refine ⟨rfl, (by first | exact HW5.out | exact fun _ => HW5.out), ?_⟩
    refine spineU_list rfl rfl rfl ?_
    go_wp2_with fail
    refine ⟨rfl, (by first | exact HW5.out | exact fun _ => HW5.out), ?_⟩
    refine spineU_list rfl rfl rfl ?_
    go_wp2_with fail
    refine ⟨rfl, (by first | exact HW5.out | exact fun _ => HW5.out), ?_⟩
    refine spineU_list rfl rfl rfl ?_
    have c52 := B5.out.cell 2
    have f52 := B5.out.free 2
    have B6 := Lib.hid (B5.out.set 2 (.slice A5 (d.pend.length + 1) c5))
    have K6 := Lib.hid (Kept.set w5 g 2 (.slice A5 (d.pend.length + 1) c5))
    have P6 := Lib.hid (K6.out.bk P5.out (fun e => HPB.out.1 (.inl e)))
    have M6 := Lib.hid (M5.out.kept K6.out H4.out.n2)
    go_wp2_with fail
    refine ⟨rfl, trivial, ?_⟩
    unfold SpineU
    obtain ⟨b2, b3⟩ := And.intro (B6.out.cell 2) (B6.out.cell 3)
    clear c52 f52
    go_wp2_with fail
    refine dw_reg _ _ _ g w1.heap.size x.mb (d.pend.length + 1) c5 A5 (s : Int) B6.out.lt P6.out.lt b2 b3 (P6.out.cell 0) rfl rfl rfl ?_
    intro vals w7 hG h66 h67 h72
    unfold IsV at h66 h67 h72
    simp only [putD, Act.put, List.setIfInBounds_toArray, List.set_cons_zero, List.set_cons_succ, h66, h67, h72]
    have K7 := Lib.hid hG
    have B7 := Lib.hid (B6.out.below hG B6.out.lt)
    have M7 := Lib.hid (M6.out.kept (Kept.of_below hG (fun _ => False)) (fun h => h))
    clear h66 h67 h72 hG b2 b3
    have hwf2 : (Lit.int .i64 ((d.pend.length : Int) + 1)).wf = true := wfI (by omega) (by omega)
    have HW2 := Lib.hid hwf2
    have HPL := Lib.hid (show d.pend.length ≤ 1000000 from by omega)
    clear hwf2
    go_wp2_with (at_mapUpdate; refine wp_put_fn rfl (.tmp 66) (.tmp 67) (.tmp 72) rfl rfl M7.out (s : Int) ((d.pend.length : Int) + 1) rfl rfl HWF.out HW2.out HPL.out ?_; intro w8 h8 k8; have M8 := Lib.hid h8; have K8 := Lib.hid k8; have B8 := Lib.hid (k8.bk B7.out (fun e => by injection e with e; exact H4.out.n2 e)); clear h8 k8; obtain c77 := B8.out.cell 7; have f77 := B8.out.free 7; have B9 := Lib.hid (B8.out.set 7 (.int .i64 ((d.writes : Int) + 1))); have K9 := Lib.hid (Kept.set w8 g 7 (.int .i64 ((d.writes : Int) + 1))))
    go_ret
    obtain ⟨ho5, hg5, hv5, g1, g3⟩ := HA5.out
    obtain ⟨h0, hs, hn, hr, hA, hp1, hp2⟩ := HX.out
    have hfin := DiskAt.push (w := w) (w4 := w3.alloc (.cells #[.int .i64 (s : Int), .slice A3 S c3] 70)) (w5 := w5) (w7 := w7) (w8 := w8) (s := s) (bs := bs) (A' := A3) (A5 := A5) (c' := c3) (c5 := c5) H4.out (by have := HK4.out.size; exact this) hs hn (by rw [HS.out.2.1]; exact HO3.out.2.2)
      (fun a e => by have := (HO3.out.1 a e).1; have := HK1.out.size; have hs1 : (w1.setCell ⟨g, 5, none⟩ (.int .i64 ((m : Int) - 1))).heap.size = w1.heap.size := (by simp); omega)
      (fun a e => ⟨by have := (HO3.out.1 a e).2; simp; omega, fun f => by have := H1.out.lts _ f; have := (HO3.out.1 a e).1; have hs1 : (w1.setCell ⟨g, 5, none⟩ (.int .i64 ((m : Int) - 1))).heap.size = w1.heap.size := (by simp); omega⟩)
      (((show Rd b8 w3 w3.heap.size A3 bs from HO3.out.2.1.rd2).alloc (Nat.le_refl _) _).more (by simp)) ds g1 g3 (by rw [HS.out.2.1]; exact ho5) hg5 hv5 K6.out K7.out K8.out K9.out B9.out (by rw [newF_snoc]; exact M8.out) hp1 hp2
    exact ⟨rfl, _, hfin.1, hfin.2.1, HK4.out.trans hfin.2.2⟩
end
end Go.Proofs.Ytfcbmdmkdjaoaaa
