/- Texts joined: DkM DkN SlA SupN SupO SupQ RegL SlB. -/
import Derived.Test.YtjcpbhjmmnpjnaaZa7
import Derived.Laws.Rows
import Derived.Laws.Tables
/- disk.Disk's Write, where all is well. Conditions: lengths. -/
namespace Go.Proofs.Ytjcpbhjmmnpjnaa
set_option linter.unusedVariables false
set_option linter.unusedSimpArgs false
open Go.RowKit Go.Maps
set_option maxHeartbeats 800000
set_option maxRecDepth 100000
theorem dw_reg (Q : Exit → Act → World → Prop) (a0 : Act) (w : World) (g h mb P pc : Nat) (pA : Option Addr) (s : Int) (hg : g < w.heap.size) (hh : h < w.heap.size) (c2 : w.cell? ⟨g, 2, none⟩ = some (.slice pA P pc)) (c3 : w.cell? ⟨g, 3, none⟩ = some (.map (some mb))) (ch : w.cell? ⟨h, 0, none⟩ = some (.int .i64 s)) (hsz : a0.tmps.size = 80) (sl0 : a0.tmps.getD 0 undef = .pointer (some ⟨g, 0, none⟩)) (sl7 : a0.tmps.getD 7 undef = .pointer (some ⟨h, 0, none⟩))
    (fin : ∀ (vals : Nat → Value) (w1 : World), Below w.heap.size w w1 → (IsV (.map (some mb))) (vals 3) w1 → (IsV (.agg #[.int .i64 s])) (vals 4) w1 → (IsV (.int .i64 P)) (vals 9) w1 → wpList Try.prog #[{ dst := none, op := Go.Op.mapUpdate 76 (Go.Operand.tmp 66) (Go.Operand.tmp 67) (Go.Operand.tmp 72), type := 0, pos := "", after := #[], guard := none }] Q [{ dst := none, op := Go.Op.mapUpdate 76 (Go.Operand.tmp 66) (Go.Operand.tmp 67) (Go.Operand.tmp 72), type := 0, pos := "", after := #[], guard := none }] (putD vals [63, 64, 65, 66, 67, 68, 69, 70, 71, 72] 0 a0) w1) :
    (Code.region 12 (regIn Try.f39 12) true).wp Try.prog Q a0 w := by
  refine region_by_tail (m := 10) (G := fun w w1 => Below w.heap.size w w1) [IsV (.pointer (some ⟨g, 0, none⟩)),
    IsV (.pointer (some ⟨g, 0, none⟩)),
    IsV (.pointer (some ⟨g, 3, none⟩)),
    IsV (.map (some mb)),
    IsV (.agg #[.int .i64 s]),
    IsV (.pointer (some ⟨g, 0, none⟩)),
    IsV (.pointer (some ⟨g, 0, none⟩)),
    IsV (.pointer (some ⟨g, 2, none⟩)),
    IsV (.slice pA P pc),
    IsV (.int .i64 P)]
    [63, 64, 65, 66, 67, 68, 69, 70, 71, 72] (by kernel_rfl) (Gw.drew _) Gw.trans (by rw [hsz]; kernel_rfl) (by kernel_rfl) ?_ ?_ ?_
  · intro f hf
    simp only [List.mem_cons, List.not_mem_nil, or_false] at hf
    rcases hf with rfl | rfl | rfl | rfl | rfl | rfl | rfl | rfl | rfl | rfl <;> intro v a b h g <;> first | exact IsV.mono h
  · refine ⟨?_, ?_, ?_, ?_, ?_, ?_, ?_, ?_, ?_, ?_, trivial⟩
    · exact owes_mv 0 (by kernel_rfl) (by kernel_rfl) (by kernel_rfl) sl0 (fun _ => rfl)
    · refine owes_v (Go.Op.nilCheck (Go.Operand.tmp 63)) 0 [0] (by kernel_rfl) (by kernel_rfl) (by kernel_rfl) rfl fun vals w1 ρ hG hF hρ hcst hfun => ?_
      have e63 : ρ (.tmp 63) = .pointer (some ⟨g, 0, none⟩) := ((hρ 63).trans (slotJ [0] (by rw [hsz]; decide) (by kernel_rfl))).trans (hF 0 (by decide))
      clear hρ hF hcst hfun sl0 sl7 fin
      exact opv_val (by go_simp <;> rfl) ⟨gw_self _, rfl⟩
    · refine owes_v (Go.Op.fieldAddr 78 (Go.Operand.tmp 64) 3) 0 [1] (by kernel_rfl) (by kernel_rfl) (by kernel_rfl) rfl fun vals w1 ρ hG hF hρ hcst hfun => ?_
      have e64 : ρ (.tmp 64) = .pointer (some ⟨g, 0, none⟩) := ((hρ 64).trans (slotJ [1] (by rw [hsz]; decide) (by kernel_rfl))).trans (hF 1 (by decide))
      clear hρ hF hcst hfun sl0 sl7 fin
      exact opv_val (by go_simp <;> rfl) ⟨gw_self _, rfl⟩
    · refine owes_v (Go.Op.load 76 (Go.Operand.tmp 65)) 76 [2] (by kernel_rfl) (by kernel_rfl) (by kernel_rfl) rfl fun vals w1 ρ hG hF hρ hcst hfun => ?_
      have e65 : ρ (.tmp 65) = .pointer (some ⟨g, 3, none⟩) := ((hρ 65).trans (slotJ [2] (by rw [hsz]; decide) (by kernel_rfl))).trans (hF 2 (by decide))
      have k := (hG.cell (p := ⟨g, 3, none⟩) hg).trans c3
      clear hρ hF hcst hfun sl0 sl7 fin
      exact opv_val (by go_simp <;> rfl) ⟨gw_self _, rfl⟩
    · refine owes_v (Go.Op.load 87 (Go.Operand.tmp 7)) 87 [] (by kernel_rfl) (by kernel_rfl) (by kernel_rfl) rfl fun vals w1 ρ hG hF hρ hcst hfun => ?_
      have e7 : ρ (.tmp 7) = .pointer (some ⟨h, 0, none⟩) := ((hρ 7).trans (slotO [] (by kernel_rfl))).trans sl7
      have k := (hG.cell (p := ⟨h, 0, none⟩) hh).trans ch
      clear hρ hF hcst hfun sl0 sl7 fin
      exact opv_val (by go_simp <;> rfl) ⟨gw_self _, rfl⟩
    · exact owes_mv 0 (by kernel_rfl) (by kernel_rfl) (by kernel_rfl) sl0 (fun _ => rfl)
    · refine owes_v (Go.Op.nilCheck (Go.Operand.tmp 68)) 0 [5] (by kernel_rfl) (by kernel_rfl) (by kernel_rfl) rfl fun vals w1 ρ hG hF hρ hcst hfun => ?_
      have e68 : ρ (.tmp 68) = .pointer (some ⟨g, 0, none⟩) := ((hρ 68).trans (slotJ [5] (by rw [hsz]; decide) (by kernel_rfl))).trans (hF 5 (by decide))
      clear hρ hF hcst hfun sl0 sl7 fin
      exact opv_val (by go_simp <;> rfl) ⟨gw_self _, rfl⟩
    · refine owes_v (Go.Op.fieldAddr 78 (Go.Operand.tmp 69) 2) 0 [6] (by kernel_rfl) (by kernel_rfl) (by kernel_rfl) rfl fun vals w1 ρ hG hF hρ hcst hfun => ?_
      have e69 : ρ (.tmp 69) = .pointer (some ⟨g, 0, none⟩) := ((hρ 69).trans (slotJ [6] (by rw [hsz]; decide) (by kernel_rfl))).trans (hF 6 (by decide))
      clear hρ hF hcst hfun sl0 sl7 fin
      exact opv_val (by go_simp <;> rfl) ⟨gw_self _, rfl⟩
    · refine owes_v (Go.Op.load 75 (Go.Operand.tmp 70)) 75 [7] (by kernel_rfl) (by kernel_rfl) (by kernel_rfl) rfl fun vals w1 ρ hG hF hρ hcst hfun => ?_
      have e70 : ρ (.tmp 70) = .pointer (some ⟨g, 2, none⟩) := ((hρ 70).trans (slotJ [7] (by rw [hsz]; decide) (by kernel_rfl))).trans (hF 7 (by decide))
      have k := (hG.cell (p := ⟨g, 2, none⟩) hg).trans c2
      clear hρ hF hcst hfun sl0 sl7 fin
      exact opv_val (by go_simp <;> rfl) ⟨gw_self _, rfl⟩
    · refine owes_v (Go.Op.call { callee := Go.Callee.builtin Go.Builtin.len, args := #[Go.Operand.tmp 71], argTypes := #[75] }) 3 [8] (by kernel_rfl) (by kernel_rfl) (by kernel_rfl) rfl fun vals w1 ρ hG hF hρ hcst hfun => ?_
      have e71 : ρ (.tmp 71) = .slice pA P pc := ((hρ 71).trans (slotJ [8] (by rw [hsz]; decide) (by kernel_rfl))).trans (hF 8 (by decide))
      clear hρ hF hcst hfun sl0 sl7 fin
      exact opv_val (by go_simp <;> rfl) ⟨gw_self _, rfl⟩
  · intro vals w1 hG hF
    exact last_list (by kernel_rfl) (by kernel_rfl) (by kernel_rfl) (fin vals w1 hG (hF 3 (by decide +kernel)) (hF 4 (by decide +kernel)) (hF 9 (by decide +kernel)))
theorem infoW : (Try.prog.info? 89).map (fun i => (i.zero, i.size, i.bytes)) = some (some (.agg #[.int .i64 0, .slice none 0 0]), 2, 32) := by kernel_rfl
section
variable {w w' : World} {g : Nat} {x : DX} {d : DK}
theorem dwrite_ok (h : DiskAt w g x d) (s : Nat) (A : Option Addr) (bs : List (BitVec 8)) (c : Nat) (ho : d.off = false) (hs : s < d.secs) (hn : bs.length = d.size) (ha : d.armed ≠ 1) (hr : Rd b8 w w.heap.size A bs) (hA : ∀ a, A = some a → ¬ Md g x a.block) (hp1 : d.pend.length < 100000) (hp2 : d.writes < 1000000) :
    Calls Try.prog 39 #[.pointer (some ⟨g, 0, none⟩), .int .i64 s, .slice A bs.length c] w fun e w' => e = .returned (.int .i64 0) ∧ ∃ x', DiskAt w' g x' (({ d with armed := d.armed - 1 } : DK).push s bs) ∧ NextX g w x x' ∧ Kept (Md g x) w w' := by
  have HH := Lib.hid (dhas_c h s)
  rw [show (decide ((0 : Int) ≤ (s : Int)) && decide ((s : Int) < (d.secs : Int))) = true from by simp; omega] at HH
  have c4 := h.blk.eight.2.2.2.2.1
  rw [ho] at c4
  have HX := Lib.hid (And.intro h (And.intro hs (And.intro hn (And.intro hr (And.intro hA (And.intro hp1 hp2))))))
  have HB0 := Lib.hid (fun W (hb : Below w.heap.size w W) => (h.below hb).blk.eight)
  obtain ⟨S, hS⟩ : ∃ S, S = d.size := ⟨_, rfl⟩
  rw [← hS] at HB0
  have hnS : bs.length = S := by rw [hS]; exact hn
  obtain ⟨m, hm⟩ : ∃ m, m = d.armed := ⟨_, rfl⟩
  rw [← hm] at HB0 ha ⊢
  have hml := h.lim.2.2.1
  rw [← hm] at hml
  rw [hnS]
  have HS := Lib.hid (And.intro hS (And.intro hnS hm))
  have hsw : (0 : Int) ≤ (s : Int) ∧ (s : Int) ≤ 20000 := ⟨by omega, by have := h.sc; omega⟩
  obtain ⟨hs1, hs2⟩ := hsw
  have HWF := Lib.hid (show (Lit.int .i64 (s : Int)).wf = true from wfI (by omega) (by omega))
  have hPb : (d.pend.length : Int) ≤ 100000 := by omega
  have hWb : (d.writes : Int) ≤ 1000000 := by omega
  clear h ho hs hn hr hA hp1 hp2 hS hnS hm
  rcases Nat.eq_zero_or_pos m with h0 | h0
  · subst h0
    clear ha hml
    go_enter Try.func39, Try.ntmps39
    go_wp2_with fail
    refine Calls.mono HH.out ?_
    rintro e w1 ⟨rfl, b1⟩
    have HB := Lib.hid b1
    obtain ⟨c0, _, c2, c3, _, c5, _, c7⟩ := HB0.out w1 b1
    have H1 : Hid (DiskAt w1 g x { d with armed := 0 - 1 }) := by
      have e := (HX.out.1.below b1)
      have e2 := HS.out.2.2
      have e3 : ({ d with armed := 0 - 1 } : DK) = d := by
        show ({ d with armed := 0 } : DK) = d
        rw [e2]
      rw [e3]; exact e
    have HK1 := Lib.hid (Kept.of_below b1 (Md g x))
    clear b1
    have hpl := Gw.alloc w1 (.cells #[.int .i64 (s : Int)] 87)
    have hsz : w1.heap.size = w1.heap.size := by simp
    have HP := Lib.hid (show Bk (w1.alloc (.cells #[.int .i64 (s : Int)] 87)) w1.heap.size 87 #[.int .i64 (s : Int)] from hsz ▸ Bk.new w1 87 #[.int .i64 (s : Int)])
    have H2 := Lib.hid (H1.out.below hpl)
    have HK2 := Lib.hid (HK1.out.trans (Kept.of_below hpl (Md g x)))
    have HPB := Lib.hid (show ¬ Md g x w1.heap.size ∧ ¬ x.D w1.heap.size from ⟨fun e => by have := H1.out.lts _ (.inl e); omega, fun e => by have := H1.out.Dlt _ e; omega⟩)
    obtain ⟨p2, p3⟩ := And.intro (H2.out.blk.cell 2) (H2.out.blk.cell 3)
    clear hpl c2 c3 c7 hsz
    go_wp2_with fail
    have HCl := Lib.hid (fun W (hb : Below (w1.alloc (.cells #[.int .i64 (s : Int)] 87)).heap.size (w1.alloc (.cells #[.int .i64 (s : Int)] 87)) W) => show Calls Try.prog 25 #[.slice A S c] W (NewP b8 5 bs W) from by
      have k := HK2.out.trans (Kept.of_below hb (Md g x))
      have := clone_c bs A c W (k.rd HX.out.2.2.2.1 HX.out.2.2.2.2.1) (by have := HS.out.2.1; have := HX.out.1.sz; have := HS.out.1; omega)
      rw [HS.out.2.1] at this
      exact this)
    refine region_by_spineU 13 [7, 8, 9, 10, 11, 12, 13] [(0, 50, .pointer (some ⟨g, 0, none⟩)), (1, 51, .pointer (some ⟨g, 0, none⟩)), (2, 52, .pointer (some ⟨g, 0, none⟩)), (3, 53, .pointer (some ⟨g, 2, none⟩)), (4, 54, .slice x.pA d.pend.length x.pc), (5, 55, .agg #[.int .i64 s]), (6, 56, .slice A S c)]
      (fun W => W.cell? ⟨g, 2, none⟩ = some (.slice x.pA d.pend.length x.pc) ∧ W.cell? ⟨w1.heap.size, 0, none⟩ = some (.int .i64 s)) (by kernel_rfl) (by kernel_rfl) (by kernel_rfl) (by kernel_rfl) (by kernel_rfl) (by kernel_rfl) (by kernel_rfl) ⟨p2, HP.out.cell 0⟩ ?_ ?_
    · intro y hy V ρ hV hρ hcst
      obtain ⟨k2, k3⟩ := hV
      have e0 : ρ (.tmp 0) = .pointer (some ⟨g, 0, none⟩) := (hρ 0).trans (by kernel_rfl)
      have e2 : ρ (.tmp 2) = .slice A S c := (hρ 2).trans (by kernel_rfl)
      have e7 : ρ (.tmp 7) = .pointer (some ⟨w1.heap.size, 0, none⟩) := (hρ 7).trans (by kernel_rfl)
      have e50 : ρ (.tmp 50) = .pointer (some ⟨g, 0, none⟩) := (hρ 50).trans (by kernel_rfl)
      have e51 : ρ (.tmp 51) = .pointer (some ⟨g, 0, none⟩) := (hρ 51).trans (by kernel_rfl)
      have e52 : ρ (.tmp 52) = .pointer (some ⟨g, 0, none⟩) := (hρ 52).trans (by kernel_rfl)
      have e53 : ρ (.tmp 53) = .pointer (some ⟨g, 2, none⟩) := (hρ 53).trans (by kernel_rfl)
      clear hρ
      simp only [List.mem_cons, List.not_mem_nil, or_false] at hy
      rcases hy with rfl | rfl | rfl | rfl | rfl | rfl | rfl
      all_goals
        refine ⟨_, rfl, ?_⟩
        go_simp
        try rfl
    simp only [putA, putD, Act.put, List.setIfInBounds_toArray, List.set_cons_zero, List.set_cons_succ]
    refine spineU_list rfl rfl rfl ?_
    go_wp2_with fail
    refine Calls.mono (HCl.out _ (by first | exact Gw.drew _ | exact bdN (Below.refl _ _) 1)) ?_
    rintro e w3 ⟨A3, c3, rfl, hc3, ho3, b3⟩
    rw [HS.out.2.1] at ho3 hc3 ⊢
    have b3' : Below (w1.alloc (.cells #[.int .i64 (s : Int)] 87)).heap.size (w1.alloc (.cells #[.int .i64 (s : Int)] 87)) w3 := (Gw.drew _).trans b3
    have H3 := Lib.hid (H2.out.below b3')
    have HK3 := Lib.hid (HK2.out.trans (Kept.of_below b3' (Md g x)))
    have HP3 := Lib.hid (HP.out.below b3' (by simp))
    have HO3 := Lib.hid (show (∀ a, A3 = some a → w1.heap.size + 1 ≤ a.block ∧ a.block < w3.heap.size) ∧ Ow b8 5 w3 0 (.slice A3 S c3) bs ∧ S ≤ c3 from ⟨fun a e => by have := ow_addr ho3 a e; simp at this; exact this, ho3.mono (Nat.zero_le _), hc3⟩)
    have hw3 : w3.cell? ⟨g, 2, none⟩ = some (.slice x.pA d.pend.length x.pc) ∧ w3.cell? ⟨w1.heap.size, 0, none⟩ = some (.int .i64 s) := ⟨H3.out.blk.cell 2, HP3.out.cell 0⟩
    have HW3 := Lib.hid hw3
    have HL3 := Lib.hid (show w1.heap.size + 1 ≤ w3.heap.size from by have := b3'.size; simp at this; exact this)
    clear b3 b3' ho3 hc3 hw3 p2 p3 HCl
    go_wp2_with fail
    refine ⟨rfl, (by first | exact HW3.out | exact fun _ => HW3.out), ?_⟩
    refine spineU_list rfl rfl rfl ?_
    go_wp2_with fail
    refine ⟨rfl, (by first | exact HW3.out | exact fun _ => HW3.out), ?_⟩
    refine spineU_list rfl rfl rfl ?_
    go_wp2_with fail
    have hb4 := Gw.alloc w3 (.cells #[.int .i64 (s : Int), .slice A3 S c3] 89)
    have H4 := Lib.hid (H3.out.below hb4)
    have HK4 := Lib.hid (HK3.out.trans (Kept.of_below hb4 (Md g x)))
    have HP4 := Lib.hid (HP3.out.below hb4 HP3.out.lt)
    have hw4 : (w3.alloc (.cells #[.int .i64 (s : Int), .slice A3 S c3] 89)).cell? ⟨g, 2, none⟩ = some (.slice x.pA d.pend.length x.pc) ∧ (w3.alloc (.cells #[.int .i64 (s : Int), .slice A3 S c3] 89)).cell? ⟨w1.heap.size, 0, none⟩ = some (.int .i64 s) := ⟨H4.out.blk.cell 2, HP4.out.cell 0⟩
    have HW4 := Lib.hid hw4
    have HE4 := Lib.hid (Bk.new w3 89 #[.int .i64 (s : Int), .slice A3 S c3])
    clear hb4 hw4
    refine ⟨rfl, (by first | exact HW4.out | exact fun _ => HW4.out), ?_⟩
    refine spineU_list rfl rfl rfl ?_
    obtain ⟨ds, g1, g2, g3⟩ := H4.out.pend
    obtain ⟨i0, hi, hz0, hz1, hz2⟩ := info_parts infoW
    refine wp_appR 2 i0 Try.underlying75 hi hz0 hz1 hz2 (by rfl) (by decide) rfl (.tmp 54) (.tmp 59) rfl 0 _ d.pend.length _ rfl g2 ⟨w3.heap.size, 0, none⟩ 1 1 [.int .i64 s, .slice A3 S c3] rfl rfl (fun j u hu => ?_) (fun u hu => ?_) (by have := HX.out.2.2.2.2.2.1; unfold maxLen; omega) (by have := HX.out.2.2.2.2.2.1; omega) (Nat.zero_le _) ?_
    · have hj : j < 2 := by have := (List.getElem?_eq_some_iff.1 hu).1; simpa using this
      rw [addr_at, HE4.out.cell]
      rcases (show j = 0 ∨ j = 1 by omega) with rfl | rfl
      · simpa using hu
      · simpa using hu
    · simp only [List.mem_cons, List.not_mem_nil, or_false] at hu
      rcases hu with rfl | rfl <;> rfl
    intro v5 w5 ho5 hb5 hg5 hv5
    obtain ⟨A5, c5, rfl⟩ : ∃ A5 c5, v5 = .slice A5 (d.pend.length + 1) c5 := by
      rcases ho5.2 with ⟨_, e⟩ | ⟨q, cap, _, e, _⟩
      · omega
      · exact ⟨_, cap, e⟩
    have k45 := Kept.grown hg5
    have hgne : ¬ ((Value.slice x.pA d.pend.length x.pc).ownBlock = some g) := fun e => by obtain ⟨a, e1, e2⟩ := own_slice e; exact (H4.out.n4 a e1).1 e2.symm
    have B5 := Lib.hid (k45.bk H4.out.blk hgne)
    have P5 := Lib.hid (k45.bk HP4.out (fun e => by obtain ⟨a, e1, e2⟩ := own_slice e; exact HPB.out.1 (.inr (.inr (.inr ⟨a, e1, e2⟩)))))
    have hw5 : w5.cell? ⟨g, 2, none⟩ = some (.slice x.pA d.pend.length x.pc) ∧ w5.cell? ⟨w1.heap.size, 0, none⟩ = some (.int .i64 s) := ⟨B5.out.cell 2, P5.out.cell 0⟩
    have HW5 := Lib.hid hw5
    have HA5 := Lib.hid (And.intro ho5 (And.intro hg5 (And.intro hv5 (And.intro g1 g3))))
    have M5 := Lib.hid (k45.map_fn H4.out.map (fun e => by obtain ⟨a, e1, e2⟩ := own_slice e; exact (H4.out.n4 a e1).2.2 e2.symm))
    clear ho5 hb5 hg5 hv5 g1 g2 g3 hi hz0 hz1 hz2 hgne k45 hw5
    refine ⟨rfl, (by first | exact HW5.out | exact fun _ => HW5.out), ?_⟩
    refine spineU_list rfl rfl rfl ?_
    go_wp2_with fail
    refine ⟨rfl, (by first | exact HW5.out | exact fun _ => HW5.out), ?_⟩
    refine spineU_list rfl rfl rfl ?_
    go_wp2_with fail
    refine ⟨rfl, (by first | exact HW5.out | exact fun _ => HW5.out), ?_⟩
    refine spineU_list rfl rfl rfl ?_
    have c52 := B5.out.cell 2
    have f52 := B5.out.free 2
    have B6 := Lib.hid (B5.out.set 2 (.slice A5 (d.pend.length + 1) c5))
    have K6 := Lib.hid (Kept.set w5 g 2 (.slice A5 (d.pend.length + 1) c5))
    have P6 := Lib.hid (K6.out.bk P5.out (fun e => HPB.out.1 (.inl e)))
    have M6 := Lib.hid (M5.out.kept K6.out H4.out.n2)
    go_wp2_with fail
    refine ⟨rfl, trivial, ?_⟩
    unfold SpineU
    obtain ⟨b2, b3⟩ := And.intro (B6.out.cell 2) (B6.out.cell 3)
    clear c52 f52
    go_wp2_with fail
    refine dw_reg _ _ _ g w1.heap.size x.mb (d.pend.length + 1) c5 A5 (s : Int) B6.out.lt P6.out.lt b2 b3 (P6.out.cell 0) rfl rfl rfl ?_
    intro vals w7 hG h66 h67 h72
    unfold IsV at h66 h67 h72
    simp only [putD, Act.put, List.setIfInBounds_toArray, List.set_cons_zero, List.set_cons_succ, h66, h67, h72]
    have K7 := Lib.hid hG
    have B7 := Lib.hid (B6.out.below hG B6.out.lt)
    have M7 := Lib.hid (M6.out.kept (Kept.of_below hG (fun _ => False)) (fun h => h))
    clear h66 h67 h72 hG b2 b3
    have hwf2 : (Lit.int .i64 ((d.pend.length : Int) + 1)).wf = true := wfI (by omega) (by omega)
    have HW2 := Lib.hid hwf2
    have HPL := Lib.hid (show d.pend.length ≤ 1000000 from by omega)
    clear hwf2
    go_wp2_with (at_mapUpdate; refine wp_put_fn rfl (.tmp 66) (.tmp 67) (.tmp 72) rfl rfl M7.out (s : Int) ((d.pend.length : Int) + 1) rfl rfl HWF.out HW2.out HPL.out ?_; intro w8 h8 k8; have M8 := Lib.hid h8; have K8 := Lib.hid k8; have B8 := Lib.hid (k8.bk B7.out (fun e => by injection e with e; exact H4.out.n2 e)); clear h8 k8; obtain c77 := B8.out.cell 7; have f77 := B8.out.free 7; have B9 := Lib.hid (B8.out.set 7 (.int .i64 ((d.writes : Int) + 1))); have K9 := Lib.hid (Kept.set w8 g 7 (.int .i64 ((d.writes : Int) + 1))))
    go_ret
    obtain ⟨ho5, hg5, hv5, g1, g3⟩ := HA5.out
    obtain ⟨h0, hs, hn, hr, hA, hp1, hp2⟩ := HX.out
    have hfin := DiskAt.push (w := w) (w4 := w3.alloc (.cells #[.int .i64 (s : Int), .slice A3 S c3] 89)) (w5 := w5) (w7 := w7) (w8 := w8) (s := s) (bs := bs) (A' := A3) (A5 := A5) (c' := c3) (c5 := c5) H4.out (by have := HK4.out.size; exact this) hs hn (by rw [HS.out.2.1]; exact HO3.out.2.2)
      (fun a e => by have := (HO3.out.1 a e).1; have := HK1.out.size; have hs1 : w1.heap.size = w1.heap.size := (by simp); omega)
      (fun a e => ⟨by have := (HO3.out.1 a e).2; simp; omega, fun f => by have := H1.out.lts _ f; have := (HO3.out.1 a e).1; have hs1 : w1.heap.size = w1.heap.size := (by simp); omega⟩)
      (((show Rd b8 w3 w3.heap.size A3 bs from HO3.out.2.1.rd2).alloc (Nat.le_refl _) _).more (by simp)) ds g1 g3 (by rw [HS.out.2.1]; exact ho5) hg5 hv5 K6.out K7.out K8.out K9.out B9.out (by rw [newF_snoc]; exact M8.out) hp1 hp2
    exact ⟨rfl, _, hfin.1, hfin.2.1, HK4.out.trans hfin.2.2⟩
  · have ha2 : 2 ≤ m := by omega
    have t1 : ((m : Int) == 1) = false := by simp; omega
    have t2 : decide ((0 : Int) < (m : Int)) = true := by simp; omega
    have q1 : (m : Int) ≤ 9223372036854775807 := by omega
    have q2 : (2 : Int) ≤ (m : Int) := by omega
    have q3 : ¬ m = 1 := by omega
    have q4 : 0 < m := by omega
    clear ha hml h0
    go_enter Try.func39, Try.ntmps39
    go_wp2_with fail
    refine Calls.mono HH.out ?_
    rintro e w1 ⟨rfl, b1⟩
    have HB := Lib.hid b1
    obtain ⟨c0, _, _, _, _, c5, _, _⟩ := HB0.out w1 b1
    have e0 := HX.out.1.below b1
    have f5 := e0.blk.free 5
    have hkk := Kept.set w1 g 5 (.int .i64 ((m : Int) - 1))
    have hbb := e0.blk.set 5 (.int .i64 ((m : Int) - 1))
    have H1 : Hid (DiskAt (w1.setCell ⟨g, 5, none⟩ (.int .i64 ((m : Int) - 1))) g x { d with armed := m - 1 }) :=
      Lib.hid (e0.flags hkk d.off (m - 1) d.writes (by omega) e0.lim.2.1 (by rw [show ((m - 1 : Nat) : Int) = (m : Int) - 1 by omega]; exact hbb))
    have HK1 := Lib.hid ((Kept.of_below b1 (Md g x)).trans (hkk.more (fun k e => .inl e)))
    obtain ⟨_, _, c2, c3, _, _, _, c7⟩ := H1.out.blk.eight
    clear b1 e0 hkk hbb
    have hpl := Gw.alloc (w1.setCell ⟨g, 5, none⟩ (.int .i64 ((m : Int) - 1))) (.cells #[.int .i64 (s : Int)] 87)
    have hsz : (w1.setCell ⟨g, 5, none⟩ (.int .i64 ((m : Int) - 1))).heap.size = w1.heap.size := by simp
    have HP := Lib.hid (show Bk ((w1.setCell ⟨g, 5, none⟩ (.int .i64 ((m : Int) - 1))).alloc (.cells #[.int .i64 (s : Int)] 87)) w1.heap.size 87 #[.int .i64 (s : Int)] from hsz ▸ Bk.new (w1.setCell ⟨g, 5, none⟩ (.int .i64 ((m : Int) - 1))) 87 #[.int .i64 (s : Int)])
    have H2 := Lib.hid (H1.out.below hpl)
    have HK2 := Lib.hid (HK1.out.trans (Kept.of_below hpl (Md g x)))
    have HPB := Lib.hid (show ¬ Md g x w1.heap.size ∧ ¬ x.D w1.heap.size from ⟨fun e => by have := H1.out.lts _ (.inl e); omega, fun e => by have := H1.out.Dlt _ e; omega⟩)
    obtain ⟨p2, p3⟩ := And.intro (H2.out.blk.cell 2) (H2.out.blk.cell 3)
    clear hpl c2 c3 c7 hsz
    go_wp2_with fail
    have HCl := Lib.hid (fun W (hb : Below ((w1.setCell ⟨g, 5, none⟩ (.int .i64 ((m : Int) - 1))).alloc (.cells #[.int .i64 (s : Int)] 87)).heap.size ((w1.setCell ⟨g, 5, none⟩ (.int .i64 ((m : Int) - 1))).alloc (.cells #[.int .i64 (s : Int)] 87)) W) => show Calls Try.prog 25 #[.slice A S c] W (NewP b8 5 bs W) from by
      have k := HK2.out.trans (Kept.of_below hb (Md g x))
      have := clone_c bs A c W (k.rd HX.out.2.2.2.1 HX.out.2.2.2.2.1) (by have := HS.out.2.1; have := HX.out.1.sz; have := HS.out.1; omega)
      rw [HS.out.2.1] at this
      exact this)
    refine region_by_spineU 13 [7, 8, 9, 10, 11, 12, 13] [(0, 50, .pointer (some ⟨g, 0, none⟩)), (1, 51, .pointer (some ⟨g, 0, none⟩)), (2, 52, .pointer (some ⟨g, 0, none⟩)), (3, 53, .pointer (some ⟨g, 2, none⟩)), (4, 54, .slice x.pA d.pend.length x.pc), (5, 55, .agg #[.int .i64 s]), (6, 56, .slice A S c)]
      (fun W => W.cell? ⟨g, 2, none⟩ = some (.slice x.pA d.pend.length x.pc) ∧ W.cell? ⟨w1.heap.size, 0, none⟩ = some (.int .i64 s)) (by kernel_rfl) (by kernel_rfl) (by kernel_rfl) (by kernel_rfl) (by kernel_rfl) (by kernel_rfl) (by kernel_rfl) ⟨p2, HP.out.cell 0⟩ ?_ ?_
    · intro y hy V ρ hV hρ hcst
      obtain ⟨k2, k3⟩ := hV
      have e0 : ρ (.tmp 0) = .pointer (some ⟨g, 0, none⟩) := (hρ 0).trans (by kernel_rfl)
      have e2 : ρ (.tmp 2) = .slice A S c := (hρ 2).trans (by kernel_rfl)
      have e7 : ρ (.tmp 7) = .pointer (some ⟨w1.heap.size, 0, none⟩) := (hρ 7).trans (by kernel_rfl)
      have e50 : ρ (.tmp 50) = .pointer (some ⟨g, 0, none⟩) := (hρ 50).trans (by kernel_rfl)
      have e51 : ρ (.tmp 51) = .pointer (some ⟨g, 0, none⟩) := (hρ 51).trans (by kernel_rfl)
      have e52 : ρ (.tmp 52) = .pointer (some ⟨g, 0, none⟩) := (hρ 52).trans (by kernel_rfl)
      have e53 : ρ (.tmp 53) = .pointer (some ⟨g, 2, none⟩) := (hρ 53).trans (by kernel_rfl)
      clear hρ
      simp only [List.mem_cons, List.not_mem_nil, or_false] at hy
      rcases hy with rfl | rfl | rfl | rfl | rfl | rfl | rfl
      all_goals
        refine ⟨_, rfl, ?_⟩
        go_simp
        try rfl
    simp only [putA, putD, Act.put, List.setIfInBounds_toArray, List.set_cons_zero, List.set_cons_succ]
    refine spineU_list rfl rfl rfl ?_
    go_wp2_with fail
    refine Calls.mono (HCl.out _ (by first | exact Gw.drew _ | exact bdN (Below.refl _ _) 1)) ?_
    rintro e w3 ⟨A3, c3, rfl, hc3, ho3, b3⟩
    rw [HS.out.2.1] at ho3 hc3 ⊢
    have b3' : Below ((w1.setCell ⟨g, 5, none⟩ (.int .i64 ((m : Int) - 1))).alloc (.cells #[.int .i64 (s : Int)] 87)).heap.size ((w1.setCell ⟨g, 5, none⟩ (.int .i64 ((m : Int) - 1))).alloc (.cells #[.int .i64 (s : Int)] 87)) w3 := (Gw.drew _).trans b3
    have H3 := Lib.hid (H2.out.below b3')
    have HK3 := Lib.hid (HK2.out.trans (Kept.of_below b3' (Md g x)))
    have HP3 := Lib.hid (HP.out.below b3' (by simp))
    have HO3 := Lib.hid (show (∀ a, A3 = some a → w1.heap.size + 1 ≤ a.block ∧ a.block < w3.heap.size) ∧ Ow b8 5 w3 0 (.slice A3 S c3) bs ∧ S ≤ c3 from ⟨fun a e => by have := ow_addr ho3 a e; simp at this; exact this, ho3.mono (Nat.zero_le _), hc3⟩)
    have hw3 : w3.cell? ⟨g, 2, none⟩ = some (.slice x.pA d.pend.length x.pc) ∧ w3.cell? ⟨w1.heap.size, 0, none⟩ = some (.int .i64 s) := ⟨H3.out.blk.cell 2, HP3.out.cell 0⟩
    have HW3 := Lib.hid hw3
    have HL3 := Lib.hid (show w1.heap.size + 1 ≤ w3.heap.size from by have := b3'.size; simp at this; exact this)
    clear b3 b3' ho3 hc3 hw3 p2 p3 HCl
    go_wp2_with fail
    refine ⟨rfl, (by first | exact HW3.out | exact fun _ => HW3.out), ?_⟩
    refine spineU_list rfl rfl rfl ?_
    go_wp2_with fail
    refine ⟨rfl, (by first | exact HW3.out | exact fun _ => HW3.out), ?_⟩
    refine spineU_list rfl rfl rfl ?_
    go_wp2_with fail
    have hb4 := Gw.alloc w3 (.cells #[.int .i64 (s : Int), .slice A3 S c3] 89)
    have H4 := Lib.hid (H3.out.below hb4)
    have HK4 := Lib.hid (HK3.out.trans (Kept.of_below hb4 (Md g x)))
    have HP4 := Lib.hid (HP3.out.below hb4 HP3.out.lt)
    have hw4 : (w3.alloc (.cells #[.int .i64 (s : Int), .slice A3 S c3] 89)).cell? ⟨g, 2, none⟩ = some (.slice x.pA d.pend.length x.pc) ∧ (w3.alloc (.cells #[.int .i64 (s : Int), .slice A3 S c3] 89)).cell? ⟨w1.heap.size, 0, none⟩ = some (.int .i64 s) := ⟨H4.out.blk.cell 2, HP4.out.cell 0⟩
    have HW4 := Lib.hid hw4
    have HE4 := Lib.hid (Bk.new w3 89 #[.int .i64 (s : Int), .slice A3 S c3])
    clear hb4 hw4
    refine ⟨rfl, (by first | exact HW4.out | exact fun _ => HW4.out), ?_⟩
    refine spineU_list rfl rfl rfl ?_
    obtain ⟨ds, g1, g2, g3⟩ := H4.out.pend
    obtain ⟨i0, hi, hz0, hz1, hz2⟩ := info_parts infoW
    refine wp_appR 2 i0 Try.underlying75 hi hz0 hz1 hz2 (by rfl) (by decide) rfl (.tmp 54) (.tmp 59) rfl 0 _ d.pend.length _ rfl g2 ⟨w3.heap.size, 0, none⟩ 1 1 [.int .i64 s, .slice A3 S c3] rfl rfl (fun j u hu => ?_) (fun u hu => ?_) (by have := HX.out.2.2.2.2.2.1; unfold maxLen; omega) (by have := HX.out.2.2.2.2.2.1; omega) (Nat.zero_le _) ?_
    · have hj : j < 2 := by have := (List.getElem?_eq_some_iff.1 hu).1; simpa using this
      rw [addr_at, HE4.out.cell]
      rcases (show j = 0 ∨ j = 1 by omega) with rfl | rfl
      · simpa using hu
      · simpa using hu
    · simp only [List.mem_cons, List.not_mem_nil, or_false] at hu
      rcases hu with rfl | rfl <;> rfl
    intro v5 w5 ho5 hb5 hg5 hv5
    obtain ⟨A5, c5, rfl⟩ : ∃ A5 c5, v5 = .slice A5 (d.pend.length + 1) c5 := by
      rcases ho5.2 with ⟨_, e⟩ | ⟨q, cap, _, e, _⟩
      · omega
      · exact ⟨_, cap, e⟩
    have k45 := Kept.grown hg5
    have hgne : ¬ ((Value.slice x.pA d.pend.length x.pc).ownBlock = some g) := fun e => by obtain ⟨a, e1, e2⟩ := own_slice e; exact (H4.out.n4 a e1).1 e2.symm
    have B5 := Lib.hid (k45.bk H4.out.blk hgne)
    have P5 := Lib.hid (k45.bk HP4.out (fun e => by obtain ⟨a, e1, e2⟩ := own_slice e; exact HPB.out.1 (.inr (.inr (.inr ⟨a, e1, e2⟩)))))
    have hw5 : w5.cell? ⟨g, 2, none⟩ = some (.slice x.pA d.pend.length x.pc) ∧ w5.cell? ⟨w1.heap.size, 0, none⟩ = some (.int .i64 s) := ⟨B5.out.cell 2, P5.out.cell 0⟩
    have HW5 := Lib.hid hw5
    have HA5 := Lib.hid (And.intro ho5 (And.intro hg5 (And.intro hv5 (And.intro g1 g3))))
    have M5 := Lib.hid (k45.map_fn H4.out.map (fun e => by obtain ⟨a, e1, e2⟩ := own_slice e; exact (H4.out.n4 a e1).2.2 e2.symm))
    clear ho5 hb5 hg5 hv5 g1 g2 g3 hi hz0 hz1 hz2 hgne k45 hw5
    refine ⟨rfl, (by first | exact HW5.out | exact fun _ => HW5.out), ?_⟩
    refine spineU_list rfl rfl rfl ?_
    go_wp2_with fail
    refine ⟨rfl, (by first | exact HW5.out | exact fun _ => HW5.out), ?_⟩
    refine spineU_list rfl rfl rfl ?_
    go_wp2_with fail
    refine ⟨rfl, (by first | exact HW5.out | exact fun _ => HW5.out), ?_⟩
    refine spineU_list rfl rfl rfl ?_
    have c52 := B5.out.cell 2
    have f52 := B5.out.free 2
    have B6 := Lib.hid (B5.out.set 2 (.slice A5 (d.pend.length + 1) c5))
    have K6 := Lib.hid (Kept.set w5 g 2 (.slice A5 (d.pend.length + 1) c5))
    have P6 := Lib.hid (K6.out.bk P5.out (fun e => HPB.out.1 (.inl e)))
    have M6 := Lib.hid (M5.out.kept K6.out H4.out.n2)
    go_wp2_with fail
    refine ⟨rfl, trivial, ?_⟩
    unfold SpineU
    obtain ⟨b2, b3⟩ := And.intro (B6.out.cell 2) (B6.out.cell 3)
    clear c52 f52
    go_wp2_with fail
    refine dw_reg _ _ _ g w1.heap.size x.mb (d.pend.length + 1) c5 A5 (s : Int) B6.out.lt P6.out.lt b2 b3 (P6.out.cell 0) rfl rfl rfl ?_
    intro vals w7 hG h66 h67 h72
    unfold IsV at h66 h67 h72
    simp only [putD, Act.put, List.setIfInBounds_toArray, List.set_cons_zero, List.set_cons_succ, h66, h67, h72]
    have K7 := Lib.hid hG
    have B7 := Lib.hid (B6.out.below hG B6.out.lt)
    have M7 := Lib.hid (M6.out.kept (Kept.of_below hG (fun _ => False)) (fun h => h))
    clear h66 h67 h72 hG b2 b3
    have hwf2 : (Lit.int .i64 ((d.pend.length : Int) + 1)).wf = true := wfI (by omega) (by omega)
    have HW2 := Lib.hid hwf2
    have HPL := Lib.hid (show d.pend.length ≤ 1000000 from by omega)
    clear hwf2
    go_wp2_with (at_mapUpdate; refine wp_put_fn rfl (.tmp 66) (.tmp 67) (.tmp 72) rfl rfl M7.out (s : Int) ((d.pend.length : Int) + 1) rfl rfl HWF.out HW2.out HPL.out ?_; intro w8 h8 k8; have M8 := Lib.hid h8; have K8 := Lib.hid k8; have B8 := Lib.hid (k8.bk B7.out (fun e => by injection e with e; exact H4.out.n2 e)); clear h8 k8; obtain c77 := B8.out.cell 7; have f77 := B8.out.free 7; have B9 := Lib.hid (B8.out.set 7 (.int .i64 ((d.writes : Int) + 1))); have K9 := Lib.hid (Kept.set w8 g 7 (.int .i64 ((d.writes : Int) + 1))))
    go_ret
    obtain ⟨ho5, hg5, hv5, g1, g3⟩ := HA5.out
    obtain ⟨h0, hs, hn, hr, hA, hp1, hp2⟩ := HX.out
    have hfin := DiskAt.push (w := w) (w4 := w3.alloc (.cells #[.int .i64 (s : Int), .slice A3 S c3] 89)) (w5 := w5) (w7 := w7) (w8 := w8) (s := s) (bs := bs) (A' := A3) (A5 := A5) (c' := c3) (c5 := c5) H4.out (by have := HK4.out.size; exact this) hs hn (by rw [HS.out.2.1]; exact HO3.out.2.2)
      (fun a e => by have := (HO3.out.1 a e).1; have := HK1.out.size; have hs1 : (w1.setCell ⟨g, 5, none⟩ (.int .i64 ((m : Int) - 1))).heap.size = w1.heap.size := (by simp); omega)
      (fun a e => ⟨by have := (HO3.out.1 a e).2; simp; omega, fun f => by have := H1.out.lts _ f; have := (HO3.out.1 a e).1; have hs1 : (w1.setCell ⟨g, 5, none⟩ (.int .i64 ((m : Int) - 1))).heap.size = w1.heap.size := (by simp); omega⟩)
      (((show Rd b8 w3 w3.heap.size A3 bs from HO3.out.2.1.rd2).alloc (Nat.le_refl _) _).more (by simp)) ds g1 g3 (by rw [HS.out.2.1]; exact ho5) hg5 hv5 K6.out K7.out K8.out K9.out B9.out (by rw [newF_snoc]; exact M8.out) hp1 hp2
    exact ⟨rfl, _, hfin.1, hfin.2.1, HK4.out.trans hfin.2.2⟩
end
end Go.Proofs.Ytjcpbhjmmnpjnaa
/- A disk besides other blocks: what its methods do. Conditions: lengths. -/
namespace Go.Proofs.Ytjcpbhjmmnpjnaa
set_option linter.unusedVariables false
set_option linter.unusedSimpArgs false
open Go.RowKit Go.Maps
/-- What a call on a disk leaves. -/
def DkP (B : Nat) (X : Nat → Prop) (w : World) (g : Nat) (d : DK) (v : Value) (e : Ending) (w' : World) : Prop := e = .returned v ∧ DiskX B X w' g d ∧ Kept (fun k => B ≤ k ∧ ¬ X k) w w'
section
variable {B : Nat} {X : Nat → Prop} {w w' : World} {g : Nat} {d : DK}
theorem DkP.bel {v : Value} {e : Ending} (h : DkP B X w g d v e w') (hB : B ≤ w.heap.size) : Below B w w' := h.2.2.below hB (fun _ e => e.1)
theorem DiskX.md (h : DiskX B X w g d) : ∃ x, DiskAt w g x d ∧ (∀ k, (Md g x k ∨ x.D k) → B ≤ k ∧ ¬ X k) ∧ ∀ a : Addr, (a.block < B ∨ X a.block) → ¬ Md g x a.block := by
  obtain ⟨x, h1, h2⟩ := h
  refine ⟨x, h1, h2, fun a ha hm => ?_⟩
  have := h2 _ (.inl hm)
  rcases ha with e | e
  · omega
  · exact this.2 e
theorem xwrite_ok (h : DiskX B X w g d) (hX : ∀ k, X k → k < w.heap.size) (hB : B ≤ w.heap.size) (s : Nat) (A : Option Addr) (bs : List (BitVec 8)) (c : Nat) (ho : d.off = false) (hs : s < d.secs) (hn : bs.length = d.size) (ha : d.armed ≠ 1) (hr : Rd b8 w w.heap.size A bs) (hA : ∀ a, A = some a → a.block < B ∨ X a.block) (hp1 : d.pend.length < 100000) (hp2 : d.writes < 1000000) :
    Calls Try.prog 39 #[.pointer (some ⟨g, 0, none⟩), .int .i64 s, .slice A bs.length c] w (DkP B X w g (({ d with armed := d.armed - 1 } : DK).push s bs) (.int .i64 0)) := by
  obtain ⟨x, h1, h2, h3⟩ := h.md
  refine (dwrite_ok h1 s A bs c ho hs hn ha hr (fun a e => h3 a (hA a e)) hp1 hp2).mono ?_
  rintro e w' ⟨rfl, x', r1, r2, r3⟩
  exact ⟨rfl, DiskX.next h1 h2 hX hB r1 r2 r3⟩
theorem xwrite_cut (h : DiskX B X w g d) (hX : ∀ k, X k → k < w.heap.size) (hB : B ≤ w.heap.size) (s : Nat) (A : Option Addr) (n c : Nat) (ho : d.off = false) (hs : s < d.secs) (hn : n = d.size) (ha : d.armed = 1) :
    Calls Try.prog 39 #[.pointer (some ⟨g, 0, none⟩), .int .i64 s, .slice A n c] w (DkP B X w g (d.cut d.keep) (.int .i64 7)) := by
  obtain ⟨x, h1, h2, h3⟩ := h.md
  refine (dwrite_cut h1 s A n c ho hs hn ha).mono ?_
  rintro e w' ⟨rfl, r1, r3⟩
  refine ⟨rfl, DiskX.next h1 h2 hX hB r1 (fun k e => ?_) r3⟩
  rcases e with (e | e | e | ⟨a, e, _⟩) | e
  · exact .inl (.inl (.inl e))
  · exact .inl (.inl (.inr (.inl e)))
  · exact .inl (.inl (.inr (.inr (.inl e))))
  · cases e
  · exact .inl (.inr e)
theorem xwrite_off (h : DiskX B X w g d) (s : Int) (A : Option Addr) (n c : Nat) (ho : d.off = true) : Calls Try.prog 39 #[.pointer (some ⟨g, 0, none⟩), .int .i64 s, .slice A n c] w fun e w' => e = .returned (.int .i64 7) ∧ w' = w := by
  obtain ⟨x, h1, h2⟩ := h
  exact dwrite_off h1 s A n c ho
theorem xread_ok (h : DiskX B X w g d) (s : Nat) (ho : d.off = false) (hs : s < d.secs) : Calls Try.prog 26 #[.pointer (some ⟨g, 0, none⟩), .int .i64 s] w (NewQ (curL d s) w) := by
  obtain ⟨x, h1, h2⟩ := h
  exact dread_ok h1 s ho hs
theorem xread_off (h : DiskX B X w g d) (s : Int) (ho : d.off = true) : Calls Try.prog 26 #[.pointer (some ⟨g, 0, none⟩), .int .i64 s] w fun e w' => e = .returned (.tuple #[.slice none 0 0, .int .i64 7]) ∧ w' = w := by
  obtain ⟨x, h1, h2⟩ := h
  exact dread_off h1 s ho
theorem xsync_ok (h : DiskX B X w g d) (hX : ∀ k, X k → k < w.heap.size) (hB : B ≤ w.heap.size) (ho : d.off = false) : Calls Try.prog 38 #[.pointer (some ⟨g, 0, none⟩)] w (DkP B X w g (d.settled (fun _ => true)) (.int .i64 0)) := by
  obtain ⟨x, h1, h2, h3⟩ := h.md
  refine (dsync_ok h1 ho).mono ?_
  rintro e w' ⟨rfl, r1, r3⟩
  refine ⟨rfl, DiskX.next h1 h2 hX hB r1 (fun k e => ?_) r3⟩
  rcases e with (e | e | e | ⟨a, e, _⟩) | e
  · exact .inl (.inl (.inl e))
  · exact .inl (.inl (.inr (.inl e)))
  · exact .inl (.inl (.inr (.inr (.inl e))))
  · cases e
  · exact .inl (.inr e)
theorem xcut_c (h : DiskX B X w g d) (hX : ∀ k, X k → k < w.heap.size) (hB : B ≤ w.heap.size) (kA : Option Addr) (kp : List Bool) (kc : Nat) (hkr : Rd boV w w.heap.size kA kp) (hkm : ∀ a, kA = some a → a.block < B ∨ X a.block) (hkl : kp.length ≤ 100000) :
    Calls Try.prog 58 #[.pointer (some ⟨g, 0, none⟩), .slice kA kp.length kc] w (DkP B X w g (d.cut kp) (.tuple #[])) := by
  obtain ⟨x, h1, h2, h3⟩ := h.md
  refine (dcut_c h1 kA kp kc hkr (fun a e => h3 a (hkm a e)) hkl).mono ?_
  rintro e w' ⟨rfl, r1, r3⟩
  refine ⟨rfl, DiskX.next h1 h2 hX hB r1 (fun k e => ?_) r3⟩
  rcases e with (e | e | e | ⟨a, e, _⟩) | e
  · exact .inl (.inl (.inl e))
  · exact .inl (.inl (.inr (.inl e)))
  · exact .inl (.inl (.inr (.inr (.inl e))))
  · cases e
  · exact .inl (.inr e)
theorem xarm_c (h : DiskX B X w g d) (hX : ∀ k, X k → k < w.heap.size) (hB : B ≤ w.heap.size) (n : Int) (hn : n ≤ 9223372036854775807) (kA : Option Addr) (kp : List Bool) (kc : Nat) (hkr : Rd boV w w.heap.size kA kp) (hkm : ∀ a, kA = some a → a.block < B ∨ X a.block) (hkl : kp.length ≤ 100000) :
    Calls Try.prog 15 #[.pointer (some ⟨g, 0, none⟩), .int .i64 n, .slice kA kp.length kc] w (DkP B X w g (d.arm (max n 1).toNat kp) (.tuple #[])) := by
  obtain ⟨x, h1, h2, h3⟩ := h.md
  refine (darm_c h1 n hn kA kp kc hkr (fun a e => h3 a (hkm a e)) hkl).mono ?_
  rintro e w' ⟨rfl, x', r1, r2, r3⟩
  exact ⟨rfl, DiskX.next h1 h2 hX hB r1 r2 r3⟩
theorem xon_c (h : DiskX B X w g d) (hX : ∀ k, X k → k < w.heap.size) (hB : B ≤ w.heap.size) : Calls Try.prog 18 #[.pointer (some ⟨g, 0, none⟩)] w (DkP B X w g d.on (.tuple #[])) := by
  obtain ⟨x, h1, h2, h3⟩ := h.md
  refine (don_c h1).mono ?_
  rintro e w' ⟨rfl, r1, r3⟩
  exact ⟨rfl, DiskX.next h1 h2 hX hB r1 (NextX.refl _ _ _) r3⟩
theorem xpending_c (h : DiskX B X w g d) : Calls Try.prog 22 #[.pointer (some ⟨g, 0, none⟩)] w fun e w' => e = .returned (.int .i64 d.pend.length) ∧ w' = w := by
  obtain ⟨x, h1, h2⟩ := h
  exact dpending_c h1
theorem xwrites_c (h : DiskX B X w g d) : Calls Try.prog 21 #[.pointer (some ⟨g, 0, none⟩)] w fun e w' => e = .returned (.int .i64 d.writes) ∧ w' = w := by
  obtain ⟨x, h1, h2⟩ := h
  exact dwrites_c h1
theorem xshape_c (h : DiskX B X w g d) : Calls Try.prog 50 #[.pointer (some ⟨g, 0, none⟩)] w fun e w' => e = .returned (.tuple #[.int .i64 d.secs, .int .i64 d.size]) ∧ Below w.heap.size w w' := by
  obtain ⟨x, h1, h2⟩ := h
  exact dshape_c h1
theorem DiskX.curLen (h : DiskX B X w g d) {s : Nat} (hs : s < d.secs) : (curL d s).length = d.size := by
  obtain ⟨x, h1, h2⟩ := h
  unfold curL
  split
  · exact secL_len h1 hs
  · rename_i hne
    rcases newF_at d.pend s with h | ⟨j, hj, hf, hjs⟩
    · exact absurd h hne
    · rw [hf, show ((j : Int) + 1 - 1).toNat = j by omega, List.getD_eq_getElem?_getD, List.getElem?_eq_getElem hj]
      exact (h1.pl _ (List.getElem_mem hj)).2
end
end Go.Proofs.Ytjcpbhjmmnpjnaa
/- Whether a disk is of a geometry's shape; what slots.Write does. Conditions: numbers. -/
namespace Go.Proofs.Ytjcpbhjmmnpjnaa
set_option linter.unusedVariables false
set_option linter.unusedSimpArgs false
open Go.RowKit Go.Maps
set_option maxRecDepth 100000
set_option maxHeartbeats 1000000
section
variable {B : Nat} {X : Nat → Prop} {w : World} {g : Nat} {d : DK}
theorem sfits_c (h : DiskX B X w g d) (s l n : Int) (hg : OkG s l n) : Calls Try.prog 28 #[.pointer (some ⟨g, 0, none⟩), gV s l n] w (RetP (.bool (decide (s = (d.size : Int) ∧ totG s l n ≤ (d.secs : Int)))) w) := by
  have HS0 := fun W => sectors_c s l n W hg
  obtain ⟨r, hr⟩ : ∃ r, r = decide (s = (d.size : Int) ∧ totG s l n ≤ (d.secs : Int)) := ⟨_, rfl⟩
  rw [← hr]
  obtain ⟨z, hz⟩ : ∃ z, z = (d.size : Int) := ⟨_, rfl⟩
  obtain ⟨k, hk⟩ : ∃ k, k = (d.secs : Int) := ⟨_, rfl⟩
  obtain ⟨t, ht⟩ : ∃ t, t = totG s l n := ⟨_, rfl⟩
  have HSH := Lib.hid (fun W (hb : Below w.heap.size w W) => by have := xshape_c (h.below hb); rw [← hz, ← hk] at this; exact this)
  rw [← hz, ← hk, ← ht] at hr
  rw [← ht] at HS0
  unfold gV at HS0 ⊢
  have HS := Lib.hid HS0
  have HK := Lib.hid (Bk.new w 30 #[.int .i64 s, .int .i64 l, .int .i64 n])
  have HW := Lib.hid (Gw.alloc w (.cells #[.int .i64 s, .int .i64 l, .int .i64 n] 30))
  clear HS0 hz hk ht h hg
  by_cases e1 : s = z
  · subst e1
    by_cases e2 : t ≤ k
    all_goals
      first
        | (obtain rfl : r = true := by rw [hr]; simp [e2]
           have q2 : decide (t ≤ k) = true := by simp [e2])
        | (obtain rfl : r = false := by rw [hr]; simp [e2]
           have q2 : decide (t ≤ k) = false := by simp [e2])
      clear hr e2
      go_enter Try.func28, Try.ntmps28
      go_wp2_with fail
      refine Calls.mono (HSH.out _ HW.out) ?_
      rintro e w1 ⟨rfl, b1⟩
      obtain ⟨c0, c1, c2⟩ := (HK.out.below b1 HK.out.lt).three
      have HB1 := Lib.hid (HW.out.trans (b1.mono HW.out.size))
      clear b1
      go_wp2_with fail
      refine Calls.mono (HS.out _) ?_
      rintro e w2 ⟨rfl, b2⟩
      have HB2 := Lib.hid (HB1.out.trans (b2.mono HB1.out.size))
      clear b2
      go_wp2_with fail
      go_ret
      exact ⟨rfl, HB2.out⟩
  · obtain rfl : r = false := by rw [hr]; simp [e1]
    have q1 : (s == z) = false := by simp [e1]
    clear hr e1
    go_enter Try.func28, Try.ntmps28
    go_wp2_with fail
    refine Calls.mono (HSH.out _ HW.out) ?_
    rintro e w1 ⟨rfl, b1⟩
    obtain ⟨c0, c1, c2⟩ := (HK.out.below b1 HK.out.lt).three
    have HB1 := Lib.hid (HW.out.trans (b1.mono HW.out.size))
    clear b1
    go_wp2_with fail
    go_ret
    exact ⟨rfl, HB1.out⟩
end
/-- The numbers of a superblock. -/
structure Sb where
  ep : BitVec 64
  s : Nat
  l : Nat
  n : Nat
  sp : Nat
  wd : Nat
  lg : BitVec 64
def Sb.cells (b : Sb) : Array Value := #[.int .u64 (U64 b.ep), .int .i64 b.s, .int .i64 b.l, .int .i64 b.n, .int .i64 b.sp, .int .i64 b.wd, .int .u64 (U64 b.lg)]
def Sb.bytes (b : Sb) : List (BitVec 8) := encSB b.ep b.s b.l b.n b.sp b.wd b.lg
def Sb.good (b : Sb) : Prop := goodS b.s b.l b.n b.sp b.wd
def Sb.at_ (b : Sb) : Nat := (b.ep &&& 1#64).toNat
def Sb.fit (b : Sb) (d : DK) : Prop := (b.s : Int) = (d.size : Int) ∧ totG b.s b.l b.n ≤ (d.secs : Int)
theorem Sb.at_le (b : Sb) : b.at_ ≤ 1 := by
  unfold Sb.at_
  rw [BitVec.toNat_and]
  exact Nat.le_trans Nat.and_le_right (by decide)
theorem Sb.geo {b : Sb} (h : b.good) : OkG b.s b.l b.n := okG_out h.1
theorem Sb.len {b : Sb} (h : b.good) : b.bytes.length = b.s := encSB_len _ _ _ _ _ _ _ (by have := (Sb.geo h).s1; omega)
theorem Sb.tot {b : Sb} (h : b.good) : 2 ≤ totG b.s b.l b.n := by
  have og := Sb.geo h
  have h1 := (oneG_bd b.s b.n og.s1 og.s2 og.n1 og.n2).1
  have h2 := og.l1
  unfold totG; omega
def DK.put (d : DK) (b : Sb) : DK := (({ d.settled (fun _ => true) with armed := d.armed - 1 } : DK).push b.at_ b.bytes).settled (fun _ => true)
section
variable {B : Nat} {X : Nat → Prop} {w : World} {g : Nat} {d : DK}
theorem swrite_bad (v : Value) (ep : BitVec 64) (s l n sp wd : Int) (lg : BitVec 64) (hb : badS s l n sp wd) : Calls Try.prog 16 #[v, blkV ep s l n sp wd lg] w (RetP (.int .i64 1) w) := by
  have HE := Lib.hid (fun W => enc6_bad ep s l n sp wd lg W hb)
  unfold blkV at HE ⊢
  have HW := Lib.hid (Gw.alloc w (.cells #[.int .u64 (U64 ep), .int .i64 s, .int .i64 l, .int .i64 n, .int .i64 sp, .int .i64 wd, .int .u64 (U64 lg)] 32))
  clear hb
  go_enter Try.func16, Try.ntmps16
  go_wp2_with fail
  refine Calls.mono (HE.out _) ?_
  rintro e w1 ⟨rfl, b1⟩
  have HB1 := Lib.hid (HW.out.trans (b1.mono HW.out.size))
  clear b1
  go_wp2_with fail
  go_ret
  exact ⟨rfl, HB1.out⟩
theorem swrite_out (h : DiskX B X w g d) (b : Sb) (hg : b.good) (hf : ¬ b.fit d) : Calls Try.prog 16 #[.pointer (some ⟨g, 0, none⟩), .agg b.cells] w (RetP (.int .i64 1) w) := by
  have HE := Lib.hid (show ∀ W, Calls Try.prog 37 #[.agg b.cells] W (Enc6P b.bytes W) from fun W => enc6_ok b.ep b.s b.l b.n b.sp b.wd b.lg W hg)
  have HF := Lib.hid (show ∀ W, Below w.heap.size w W → Calls Try.prog 28 #[.pointer (some ⟨g, 0, none⟩), .agg #[.int .i64 b.s, .int .i64 b.l, .int .i64 b.n]] W (RetP (.bool false) W) from fun W hb => by
    have := sfits_c (h.below hb) b.s b.l b.n (Sb.geo hg)
    rw [show decide ((b.s : Int) = (d.size : Int) ∧ totG b.s b.l b.n ≤ (d.secs : Int)) = false from decide_eq_false hf] at this
    exact this)
  obtain ⟨N, hN⟩ : ∃ N, N = b.bytes.length := ⟨_, rfl⟩
  unfold Enc6P at HE
  rw [← hN] at HE
  unfold Sb.cells at HE ⊢
  obtain ⟨ep, s, l, n, sp, wd, lg⟩ := b
  simp only at HE HF ⊢
  have HK := Lib.hid (Bk.new w 32 #[.int .u64 (U64 ep), .int .i64 s, .int .i64 l, .int .i64 n, .int .i64 sp, .int .i64 wd, .int .u64 (U64 lg)])
  have HW := Lib.hid (Gw.alloc w (.cells #[.int .u64 (U64 ep), .int .i64 s, .int .i64 l, .int .i64 n, .int .i64 sp, .int .i64 wd, .int .u64 (U64 lg)] 32))
  clear hg hf h hN
  go_enter Try.func16, Try.ntmps16
  go_wp2_with fail
  refine Calls.mono (HE.out _) ?_
  rintro e w2 ⟨A, c, rfl, hc, hr, b2, hA⟩
  obtain ⟨c0, c1, c2, c3, c4, c5, c6⟩ := (HK.out.below b2 HK.out.lt).seven
  have HB2 := Lib.hid (HW.out.trans (b2.mono HW.out.size))
  clear b2 hr hA hc
  go_wp2_with fail
  refine Calls.mono (HF.out _ HB2.out) ?_
  rintro e w3 ⟨rfl, b3⟩
  have HB3 := Lib.hid (HB2.out.trans (b3.mono HB2.out.size))
  clear b3
  go_wp2_with fail
  go_ret
  exact ⟨rfl, HB3.out⟩
theorem swrite_ok (h : DiskX B X w g d) (hX : ∀ k, X k → k < w.heap.size) (hB : B ≤ w.heap.size) (b : Sb) (hg : b.good) (hf : b.fit d) (ho : d.off = false) (ha : d.armed ≠ 1) (hw : d.writes < 1000000) : Calls Try.prog 16 #[.pointer (some ⟨g, 0, none⟩), .agg b.cells] w (DkP B X w g (d.put b) (.int .i64 0)) := by
  have HE := Lib.hid (show ∀ W, Calls Try.prog 37 #[.agg b.cells] W (Enc6P b.bytes W) from fun W => enc6_ok b.ep b.s b.l b.n b.sp b.wd b.lg W hg)
  have HF := Lib.hid (show ∀ W, Below w.heap.size w W → Calls Try.prog 28 #[.pointer (some ⟨g, 0, none⟩), .agg #[.int .i64 b.s, .int .i64 b.l, .int .i64 b.n]] W (RetP (.bool true) W) from fun W hb => by
    have := sfits_c (h.below hb) b.s b.l b.n (Sb.geo hg)
    rw [show decide ((b.s : Int) = (d.size : Int) ∧ totG b.s b.l b.n ≤ (d.secs : Int)) = true from decide_eq_true hf] at this
    exact this)
  have hlen := Sb.len hg
  have hs64 : 64 ≤ b.s := by have := (Sb.geo hg).s1; omega
  have hat : b.at_ < d.secs := by have h1 := b.at_le; have h2 := Sb.tot hg; have h3 := hf.2; omega
  have hsz : b.bytes.length = d.size := by have := hf.1; omega
  have HSL := Lib.hid (show ∀ W, Calls Try.prog 19 #[.int .u64 (U64 b.ep)] W fun e w' => e = .returned (.int .i64 (b.at_ : Int)) ∧ w' = W from fun W => slot_c b.ep W)
  obtain ⟨A_, hA_⟩ : ∃ k, k = b.at_ := ⟨_, rfl⟩
  obtain ⟨bs, hbs⟩ : ∃ k, k = b.bytes := ⟨_, rfl⟩
  have HP := Lib.hid (show DK.put d b = (({ d.settled (fun _ => true) with armed := d.armed - 1 } : DK).push A_ bs).settled (fun _ => true) from by rw [hA_, hbs]; rfl)
  rw [← hA_] at hat HSL
  rw [← hbs] at hlen hsz HE
  obtain ⟨N, hN⟩ : ∃ N, N = bs.length := ⟨_, rfl⟩
  have HQ := Lib.hid (And.intro h (And.intro hX hB))
  have HR := Lib.hid (And.intro ho (And.intro hat (And.intro hsz (And.intro ha hw))))
  have HNN := Lib.hid (show N = bs.length ∧ 0 < bs.length from ⟨hN, by omega⟩)
  unfold Enc6P at HE
  rw [← hN] at HE
  unfold Sb.cells at HE ⊢
  obtain ⟨ep, s, l, n, sp, wd, lg⟩ := b
  simp only at HE HF HSL ⊢
  have HK := Lib.hid (Bk.new w 32 #[.int .u64 (U64 ep), .int .i64 s, .int .i64 l, .int .i64 n, .int .i64 sp, .int .i64 wd, .int .u64 (U64 lg)])
  have HW := Lib.hid (Gw.alloc w (.cells #[.int .u64 (U64 ep), .int .i64 s, .int .i64 l, .int .i64 n, .int .i64 sp, .int .i64 wd, .int .u64 (U64 lg)] 32))
  clear hg hf h hX hB ho hat hsz hlen hs64 hA_ hbs hN ha hw
  go_enter Try.func16, Try.ntmps16
  go_wp2_with fail
  refine Calls.mono (HE.out _) ?_
  rintro e w2 ⟨A, c, rfl, hc, hr, b2, hA⟩
  have HK2 := Lib.hid (HK.out.below b2 HK.out.lt)
  obtain ⟨c0, c1, c2, c3, c4, c5, c6⟩ := HK2.out.seven
  have HB2 := Lib.hid (HW.out.trans (b2.mono HW.out.size))
  have HA := Lib.hid (show (∀ a, A = some a → w.heap.size < a.block ∧ a.block < w2.heap.size) ∧ Rd b8 w2 w2.heap.size A bs from by
    refine ⟨fun a e => ?_, hr⟩
    obtain ⟨ad, e2, hl, _⟩ := hr.addr HNN.out.2
    rw [e] at e2
    injection e2 with e2
    subst e2
    have := hA a e
    simp at this
    exact ⟨by omega, hl⟩)
  clear b2 hr hA hc
  go_wp2_with fail
  refine Calls.mono (HF.out _ HB2.out) ?_
  rintro e w3 ⟨rfl, b3⟩
  have HB3 := Lib.hid (HB2.out.trans (b3.mono HB2.out.size))
  have HK3 := Lib.hid (HK2.out.below b3 HK2.out.lt)
  have HA3 := Lib.hid (show (∀ a, A = some a → w.heap.size < a.block ∧ a.block < w3.heap.size) ∧ Rd b8 w3 w3.heap.size A bs from ⟨fun a e => ⟨(HA.out.1 a e).1, Nat.lt_of_lt_of_le (HA.out.1 a e).2 b3.size⟩, (HA.out.2.below b3).more b3.size⟩)
  obtain ⟨X', hX'⟩ : ∃ X' : Nat → Prop, X' = fun k => X k ∨ (w.heap.size ≤ k ∧ k < w3.heap.size) := ⟨_, rfl⟩
  have HD3 := Lib.hid (show DiskX B X' w3 g d ∧ (∀ k, X' k → k < w3.heap.size) ∧ B ≤ w3.heap.size from by
    have hs := HB3.out.size
    refine ⟨(HQ.out.1.besides (fun k e => by rw [hX'] at e; exact e.imp id And.left)).below HB3.out, fun k e => ?_, Nat.le_trans HQ.out.2.2 hs⟩
    rw [hX'] at e
    rcases e with e | e
    · exact Nat.lt_of_lt_of_le (HQ.out.2.1 k e) hs
    · exact e.2)
  have HXX := Lib.hid (show X' w.heap.size ∧ (∀ a, A = some a → X' a.block) ∧ (∀ k, X k → X' k) from by
    have hl := HK3.out.lt
    rw [hX']
    exact ⟨.inr ⟨Nat.le_refl _, hl⟩, fun a e => .inr ⟨Nat.le_of_lt (HA3.out.1 a e).1, (HA3.out.1 a e).2⟩, fun k e => .inl e⟩)
  clear b3 c0 c1 c2 c3 c4 c5 c6 hX'
  go_wp2_with fail
  refine Calls.mono (xsync_ok HD3.out.1 HD3.out.2.1 HD3.out.2.2 HR.out.1) ?_
  rintro e w4 ⟨rfl, d4, k4⟩
  have HD4 := Lib.hid (show DiskX B X' w4 g (d.settled (fun _ => true)) ∧ (∀ k, X' k → k < w4.heap.size) ∧ B ≤ w4.heap.size from ⟨d4, fun k e => Nat.lt_of_lt_of_le (HD3.out.2.1 k e) k4.size, Nat.le_trans HD3.out.2.2 k4.size⟩)
  obtain ⟨c0, c1, c2, c3, c4, c5, c6⟩ := (k4.bk HK3.out (fun e => e.2 HXX.out.1)).seven
  have HR4 := Lib.hid (k4.rd HA3.out.2 (fun a e f => f.2 (HXX.out.2.1 a e)))
  have HK4 := Lib.hid ((Kept.of_below HB3.out (fun k => B ≤ k ∧ ¬ X k)).trans (k4.more (fun k e => ⟨e.1, fun x => e.2 (HXX.out.2.2 k x)⟩)))
  clear d4 k4 HE HF HK HW
  go_wp2_with fail
  refine Calls.mono (HSL.out _) ?_
  rintro e w' ⟨rfl, rfl⟩
  go_wp2_with fail
  have hcall := xwrite_ok HD4.out.1 HD4.out.2.1 HD4.out.2.2 A_ A bs c HR.out.1 HR.out.2.1 HR.out.2.2.1 HR.out.2.2.2.1 HR4.out (fun a e => .inr (HXX.out.2.1 a e)) (by show [].length < 100000; decide) HR.out.2.2.2.2
  rw [← HNN.out.1] at hcall
  refine Calls.mono hcall ?_
  rintro e w5 ⟨rfl, d5, k5⟩
  have HD5 := Lib.hid (show DiskX B X' w5 g _ ∧ (∀ k, X' k → k < w5.heap.size) ∧ B ≤ w5.heap.size from ⟨d5, fun k e => Nat.lt_of_lt_of_le (HD4.out.2.1 k e) k5.size, Nat.le_trans HD4.out.2.2 k5.size⟩)
  have HK5 := Lib.hid (HK4.out.trans (k5.more (fun k e => ⟨e.1, fun x => e.2 (HXX.out.2.2 k x)⟩)))
  clear d5 k5 hcall c0 c1 c2 c3 c4 c5 c6
  go_wp2_with fail
  refine Calls.mono (xsync_ok HD5.out.1 HD5.out.2.1 HD5.out.2.2 HR.out.1) ?_
  rintro e w6 ⟨rfl, d6, k6⟩
  have HF6 := Lib.hid (And.intro d6 k6)
  clear d6 k6
  go_wp2_with fail
  go_ret
  refine ⟨rfl, ?_, HK5.out.trans (HF6.out.2.more (fun k e => ⟨e.1, fun x => e.2 (HXX.out.2.2 k x)⟩))⟩
  rw [HP.out]
  exact HF6.out.1.besides (fun k e => .inl (HXX.out.2.2 k e))
theorem swrite_cut (h : DiskX B X w g d) (hX : ∀ k, X k → k < w.heap.size) (hB : B ≤ w.heap.size) (b : Sb) (hg : b.good) (hf : b.fit d) (ho : d.off = false) (ha : d.armed = 1) : Calls Try.prog 16 #[.pointer (some ⟨g, 0, none⟩), .agg b.cells] w (DkP B X w g ((d.settled (fun _ => true)).cut d.keep) (.int .i64 7)) := by
  have HE := Lib.hid (show ∀ W, Calls Try.prog 37 #[.agg b.cells] W (Enc6P b.bytes W) from fun W => enc6_ok b.ep b.s b.l b.n b.sp b.wd b.lg W hg)
  have HF := Lib.hid (show ∀ W, Below w.heap.size w W → Calls Try.prog 28 #[.pointer (some ⟨g, 0, none⟩), .agg #[.int .i64 b.s, .int .i64 b.l, .int .i64 b.n]] W (RetP (.bool true) W) from fun W hb => by
    have := sfits_c (h.below hb) b.s b.l b.n (Sb.geo hg)
    rw [show decide ((b.s : Int) = (d.size : Int) ∧ totG b.s b.l b.n ≤ (d.secs : Int)) = true from decide_eq_true hf] at this
    exact this)
  have hlen := Sb.len hg
  have hs64 : 64 ≤ b.s := by have := (Sb.geo hg).s1; omega
  have hat : b.at_ < d.secs := by have h1 := b.at_le; have h2 := Sb.tot hg; have h3 := hf.2; omega
  have hsz : b.bytes.length = d.size := by have := hf.1; omega
  have HSL := Lib.hid (show ∀ W, Calls Try.prog 19 #[.int .u64 (U64 b.ep)] W fun e w' => e = .returned (.int .i64 (b.at_ : Int)) ∧ w' = W from fun W => slot_c b.ep W)
  obtain ⟨A_, hA_⟩ : ∃ k, k = b.at_ := ⟨_, rfl⟩
  obtain ⟨bs, hbs⟩ : ∃ k, k = b.bytes := ⟨_, rfl⟩
  have _HP := Lib.hid (show DK.put d b = (({ d.settled (fun _ => true) with armed := d.armed - 1 } : DK).push A_ bs).settled (fun _ => true) from by rw [hA_, hbs]; rfl)
  rw [← hA_] at hat HSL
  rw [← hbs] at hlen hsz HE
  obtain ⟨N, hN⟩ : ∃ N, N = bs.length := ⟨_, rfl⟩
  have HQ := Lib.hid (And.intro h (And.intro hX hB))
  have HR := Lib.hid (And.intro ho (And.intro hat (And.intro hsz ha)))
  have HNN := Lib.hid (show N = bs.length ∧ 0 < bs.length from ⟨hN, by omega⟩)
  unfold Enc6P at HE
  rw [← hN] at HE
  unfold Sb.cells at HE ⊢
  obtain ⟨ep, s, l, n, sp, wd, lg⟩ := b
  simp only at HE HF HSL ⊢
  have HK := Lib.hid (Bk.new w 32 #[.int .u64 (U64 ep), .int .i64 s, .int .i64 l, .int .i64 n, .int .i64 sp, .int .i64 wd, .int .u64 (U64 lg)])
  have HW := Lib.hid (Gw.alloc w (.cells #[.int .u64 (U64 ep), .int .i64 s, .int .i64 l, .int .i64 n, .int .i64 sp, .int .i64 wd, .int .u64 (U64 lg)] 32))
  clear hg hf h hX hB ho hat hsz hlen hs64 hA_ hbs hN ha
  go_enter Try.func16, Try.ntmps16
  go_wp2_with fail
  refine Calls.mono (HE.out _) ?_
  rintro e w2 ⟨A, c, rfl, hc, hr, b2, hA⟩
  have HK2 := Lib.hid (HK.out.below b2 HK.out.lt)
  obtain ⟨c0, c1, c2, c3, c4, c5, c6⟩ := HK2.out.seven
  have HB2 := Lib.hid (HW.out.trans (b2.mono HW.out.size))
  have HA := Lib.hid (show (∀ a, A = some a → w.heap.size < a.block ∧ a.block < w2.heap.size) ∧ Rd b8 w2 w2.heap.size A bs from by
    refine ⟨fun a e => ?_, hr⟩
    obtain ⟨ad, e2, hl, _⟩ := hr.addr HNN.out.2
    rw [e] at e2
    injection e2 with e2
    subst e2
    have := hA a e
    simp at this
    exact ⟨by omega, hl⟩)
  clear b2 hr hA hc
  go_wp2_with fail
  refine Calls.mono (HF.out _ HB2.out) ?_
  rintro e w3 ⟨rfl, b3⟩
  have HB3 := Lib.hid (HB2.out.trans (b3.mono HB2.out.size))
  have HK3 := Lib.hid (HK2.out.below b3 HK2.out.lt)
  have HA3 := Lib.hid (show (∀ a, A = some a → w.heap.size < a.block ∧ a.block < w3.heap.size) ∧ Rd b8 w3 w3.heap.size A bs from ⟨fun a e => ⟨(HA.out.1 a e).1, Nat.lt_of_lt_of_le (HA.out.1 a e).2 b3.size⟩, (HA.out.2.below b3).more b3.size⟩)
  obtain ⟨X', hX'⟩ : ∃ X' : Nat → Prop, X' = fun k => X k ∨ (w.heap.size ≤ k ∧ k < w3.heap.size) := ⟨_, rfl⟩
  have HD3 := Lib.hid (show DiskX B X' w3 g d ∧ (∀ k, X' k → k < w3.heap.size) ∧ B ≤ w3.heap.size from by
    have hs := HB3.out.size
    refine ⟨(HQ.out.1.besides (fun k e => by rw [hX'] at e; exact e.imp id And.left)).below HB3.out, fun k e => ?_, Nat.le_trans HQ.out.2.2 hs⟩
    rw [hX'] at e
    rcases e with e | e
    · exact Nat.lt_of_lt_of_le (HQ.out.2.1 k e) hs
    · exact e.2)
  have HXX := Lib.hid (show X' w.heap.size ∧ (∀ a, A = some a → X' a.block) ∧ (∀ k, X k → X' k) from by
    have hl := HK3.out.lt
    rw [hX']
    exact ⟨.inr ⟨Nat.le_refl _, hl⟩, fun a e => .inr ⟨Nat.le_of_lt (HA3.out.1 a e).1, (HA3.out.1 a e).2⟩, fun k e => .inl e⟩)
  clear b3 c0 c1 c2 c3 c4 c5 c6 hX'
  go_wp2_with fail
  refine Calls.mono (xsync_ok HD3.out.1 HD3.out.2.1 HD3.out.2.2 HR.out.1) ?_
  rintro e w4 ⟨rfl, d4, k4⟩
  have HD4 := Lib.hid (show DiskX B X' w4 g (d.settled (fun _ => true)) ∧ (∀ k, X' k → k < w4.heap.size) ∧ B ≤ w4.heap.size from ⟨d4, fun k e => Nat.lt_of_lt_of_le (HD3.out.2.1 k e) k4.size, Nat.le_trans HD3.out.2.2 k4.size⟩)
  obtain ⟨c0, c1, c2, c3, c4, c5, c6⟩ := (k4.bk HK3.out (fun e => e.2 HXX.out.1)).seven
  have HR4 := Lib.hid (k4.rd HA3.out.2 (fun a e f => f.2 (HXX.out.2.1 a e)))
  have HK4 := Lib.hid ((Kept.of_below HB3.out (fun k => B ≤ k ∧ ¬ X k)).trans (k4.more (fun k e => ⟨e.1, fun x => e.2 (HXX.out.2.2 k x)⟩)))
  clear d4 k4 HE HF HK HW
  go_wp2_with fail
  refine Calls.mono (HSL.out _) ?_
  rintro e w' ⟨rfl, rfl⟩
  go_wp2_with fail
  refine Calls.mono (xwrite_cut HD4.out.1 HD4.out.2.1 HD4.out.2.2 A_ A N c HR.out.1 HR.out.2.1 (HNN.out.1.trans HR.out.2.2.1) HR.out.2.2.2) ?_
  rintro e w5 ⟨rfl, d5, k5⟩
  have HF5 := Lib.hid (And.intro d5 k5)
  clear d5 k5 c0 c1 c2 c3 c4 c5 c6
  go_wp2_with fail
  go_ret
  exact ⟨rfl, HF5.out.1.besides (fun k e => .inl (HXX.out.2.2 k e)), HK4.out.trans (HF5.out.2.more (fun k e => ⟨e.1, fun x => e.2 (HXX.out.2.2 k x)⟩))⟩
end
end Go.Proofs.Ytjcpbhjmmnpjnaa
/- What loamref6.Decode answers of any bytes. Conditions: lengths. -/
namespace Go.Proofs.Ytjcpbhjmmnpjnaa
set_option linter.unusedVariables false
set_option linter.unusedSimpArgs false
open Go.RowKit
set_option maxRecDepth 100000
set_option maxHeartbeats 2000000
theorem number_c (bs : List (BitVec 8)) (A : Option Addr) (c : Nat) (at_ n : Int) (w : World) (hr : Rd b8 w w.heap.size A bs) (hl : bs.length ≤ 2147483648) : Calls Try.prog 51 #[.slice A bs.length c, .int .i64 at_, .int .i64 n] w (RetP (.int .u64 (U64 (getB bs at_ n))) w) := by
  have HG := Lib.hid (rget_c bs A c at_ n w w.heap.size hr hl)
  obtain ⟨N, hN⟩ : ∃ N, N = bs.length := ⟨_, rfl⟩
  rw [← hN] at HG ⊢
  clear hr hl hN
  go_enter Try.func51, Try.ntmps51
  go_wp2_with fail
  refine Calls.mono HG.out.go ?_
  rintro e w1 ⟨rfl, mm, rfl⟩
  go_wp2_with fail
  go_ret
  exact ⟨rfl, (by repeat (first | with_reducible assumption | with_reducible exact Below.refl _ _ | with_reducible apply bdN | with_reducible apply Below.drew | with_reducible refine Below.alloc ?_ (by simp) _ | with_reducible refine Below.setCell ?_ (by simp) _))⟩
theorem number_n (bs : List (BitVec 8)) (A : Option Addr) (c N : Nat) (hN : N = bs.length) (at_ : Int) (x : Nat) (hx : U64 (getB bs at_ 4) = (x : Int)) (w : World) (hr : Rd b8 w w.heap.size A bs) (hl : bs.length ≤ 2147483648) : Calls Try.prog 51 #[.slice A N c, .int .i64 at_, .int .i64 4] w (RetP (.int .u64 (x : Int)) w) := by
  subst hN
  rw [← hx]
  exact number_c bs A c at_ 4 w hr hl
theorem number_8 (bs : List (BitVec 8)) (A : Option Addr) (c N : Nat) (hN : N = bs.length) (at_ : Int) (x : BitVec 64) (hx : getB bs at_ 8 = x) (w : World) (hr : Rd b8 w w.heap.size A bs) (hl : bs.length ≤ 2147483648) : Calls Try.prog 51 #[.slice A N c, .int .i64 at_, .int .i64 8] w (RetP (.int .u64 (U64 x)) w) := by
  subst hN
  rw [← hx]
  exact number_c bs A c at_ 8 w hr hl
theorem row_below {w : World} {B g : Nat} (hB : B ≤ g) (cs : Array Value) : Below B w (w.setRow g cs) :=
  ⟨rfl, rfl, rfl, by simp, fun k hk => setRow_other w g k cs (by omega)⟩
theorem wp_st6 {ops : Array Oper} {rest : List Oper} {o : Oper} {a : Act} {w : World} {Q : Exit → Act → World → Prop} (hg : o.guard = none) (x y : Operand) (ho : o.op = .store 41 x y) (g : Nat) (cs : Array Value) (hx : a.eval x = .pointer (some ⟨g, 0, none⟩)) (hy : a.eval y = .agg cs) (E : TypeId) (old : Array Value) (hb : Bk w g E old)
    (hs : cs.size = 7) (hold : old.size = 7) (h1 : cs.all (·.oneCell') = true)
    (h : ∀ w', Bk w' g E cs → (∀ B, B ≤ g → Below B w w') → (∀ k, k ≠ g → w'.heap[k]? = w.heap[k]?) → wpList Try.prog ops Q rest (a.put o.dst undef) w') : wpList Try.prog ops Q (o :: rest) a w :=
  wpList_store_row hg 41 x y ho g cs hx hy E old hb (by rw [hs]; kernel_rfl) (by rw [hs, hold]) h1
    (h _ (setRow_heap w g old cs E (0, 0) hb) (fun B hB => row_below hB cs) (fun k hk => setRow_other w g k cs hk))
theorem res6 {tmps : Array Value} {W : World} {g : Nat} {E : TypeId} {cs : Array Value} {y : Value} (hs : cs.size = 7) (hb : Bk W g E cs) (h2 : tmps.getD 2 undef = .pointer (some ⟨g, 0, none⟩)) (h3 : tmps.getD 3 undef = y) :
    (results Try.f30 tmps).run Try.prog W = .ok (.tuple #[.agg cs, y]) W := by
  have hl := run_loadVar_row (P := Try.prog) W g E 41 cs (0, 0) _ hb Try.underlying41 rfl (by rw [hs]; kernel_rfl)
  have h2' : tmps[2]?.getD undef = .pointer (some ⟨g, 0, none⟩) := by simpa using h2
  have h3' : tmps[3]?.getD undef = y := by simpa using h3
  simp [results, Try.results30, h2', h3', asAddr, hl]
def zer6 : Array Value := #[.int .u64 0, .int .i64 0, .int .i64 0, .int .i64 0, .int .i64 0, .int .i64 0, .int .u64 0]
theorem rdec6_short (E : List (BitVec 8)) (A : Option Addr) (c : Nat) (w : World) (h : E.length < 64) : Calls Try.prog 30 #[.slice A E.length c] w (RetP (.tuple #[blkV 0#64 0 0 0 0 0 0#64, .int .i64 2]) w) := by
  have hz : U64 0#64 = 0 := by decide +kernel
  unfold blkV
  rw [hz]
  clear hz
  obtain ⟨N, hN⟩ : ∃ N, N = E.length := ⟨_, rfl⟩
  rw [← hN] at h ⊢
  have q1 : decide ((N : Int) < 64) = true := by simp; omega
  have HB := Lib.hid (Bk.new w 41 zer6)
  have HW := Lib.hid (Gw.alloc w (.cells zer6 41))
  unfold zer6 at HB HW
  clear hN h
  go_enter Try.func30, Try.ntmps30
  go_wp2_with fail
  exact bodyPost_ret (v := .tuple #[.agg #[.int .u64 0, .int .i64 0, .int .i64 0, .int .i64 0, .int .i64 0, .int .i64 0, .int .u64 0], .int .i64 2]) (res6 rfl HB.out rfl rfl) rfl ⟨rfl, HW.out⟩
/-- A new block. -/
def PZ (B : Nat) (E : TypeId) (cs : Array Value) (v : Value) (w : World) : Prop := ∃ g, B ≤ g ∧ v = .pointer (some ⟨g, 0, none⟩) ∧ Bk w g E cs
theorem PZ.mono {B : Nat} {E : TypeId} {cs : Array Value} {v : Value} {a b : World} (h : PZ B E cs v a) (g : Below a.heap.size a b) : PZ B E cs v b := by
  obtain ⟨k, h1, h2, h3⟩ := h
  exact ⟨k, h1, h2, h3.below g h3.lt⟩
theorem rd6_reg (Q : Exit → Act → World → Prop) (a0 : Act) (w : World) (g : Nat) (E : List (BitVec 8)) (A : Option Addr) (c N s l n sp wd : Nat) (ep lg : BitVec 64) (hr : Rd b8 w w.heap.size A E) (hk : Bk w g 39 #[.int .i64 s, .int .i64 l, .int .i64 n]) (HNUM : Hid (∀ W, Rd b8 W W.heap.size A E → Calls Try.prog 51 #[.slice A N c, .int .i64 8, .int .i64 8] W (RetP (.int .u64 (U64 ep)) W) ∧ Calls Try.prog 51 #[.slice A N c, .int .i64 28, .int .i64 4] W (RetP (.int .u64 (sp : Int)) W) ∧ Calls Try.prog 51 #[.slice A N c, .int .i64 32, .int .i64 4] W (RetP (.int .u64 (wd : Int)) W) ∧ Calls Try.prog 51 #[.slice A N c, .int .i64 36, .int .i64 8] W (RetP (.int .u64 (U64 lg)) W))) (h1 : sp ≤ 4294967296) (h2 : wd ≤ 4294967296) (hsz : a0.tmps.size = 50) (sl0 : a0.tmps.getD 0 undef = .slice A N c) (sl4 : a0.tmps.getD 4 undef = .pointer (some ⟨g, 0, none⟩))
    (fin : ∀ (vals : Nat → Value) (w1 : World), Below w.heap.size w w1 → (PZ w.heap.size 41 #[.int .u64 0, .int .i64 0, .int .i64 0, .int .i64 0, .int .i64 0, .int .i64 0, .int .u64 0]) (vals 12) w1 → (IsV (.agg #[.int .u64 (U64 ep), .int .i64 s, .int .i64 l, .int .i64 n, .int .i64 sp, .int .i64 wd, .int .u64 (U64 lg)])) (vals 11) w1 → wpList Try.prog #[{ dst := none, op := Go.Op.store 41 (Go.Operand.tmp 5) (Go.Operand.tmp 33), type := 0, pos := "", after := #[], guard := none }] Q [{ dst := none, op := Go.Op.store 41 (Go.Operand.tmp 5) (Go.Operand.tmp 33), type := 0, pos := "", after := #[], guard := none }] (putD vals [22, 23, 24, 25, 26, 27, 28, 29, 30, 31, 32, 33, 5] 0 a0) w1) :
    (Code.region 4 (regIn Try.f30 4) true).wp Try.prog Q a0 w := by
  refine region_by_tail (m := 13) (G := fun w w1 => Below w.heap.size w w1) [IsV (.slice A N c),
    IsV (.int .u64 (U64 ep)),
    IsV (.agg #[.int .i64 s, .int .i64 l, .int .i64 n]),
    IsV (.slice A N c),
    IsV (.int .u64 (sp : Int)),
    IsV (.int .i64 (sp : Int)),
    IsV (.slice A N c),
    IsV (.int .u64 (wd : Int)),
    IsV (.int .i64 (wd : Int)),
    IsV (.slice A N c),
    IsV (.int .u64 (U64 lg)),
    IsV (.agg #[.int .u64 (U64 ep), .int .i64 s, .int .i64 l, .int .i64 n, .int .i64 sp, .int .i64 wd, .int .u64 (U64 lg)]),
    PZ w.heap.size 41 #[.int .u64 0, .int .i64 0, .int .i64 0, .int .i64 0, .int .i64 0, .int .i64 0, .int .u64 0]]
    [22, 23, 24, 25, 26, 27, 28, 29, 30, 31, 32, 33, 5] (by kernel_rfl) (Gw.drew _) Gw.trans (by rw [hsz]; kernel_rfl) (by kernel_rfl) ?_ ?_ ?_
  · intro f hf
    simp only [List.mem_cons, List.not_mem_nil, or_false] at hf
    rcases hf with rfl | rfl | rfl | rfl | rfl | rfl | rfl | rfl | rfl | rfl | rfl | rfl | rfl <;> intro v a b h g <;> first | exact IsV.mono h | exact PZ.mono h g
  · refine ⟨?_, ?_, ?_, ?_, ?_, ?_, ?_, ?_, ?_, ?_, ?_, ?_, ?_, trivial⟩
    · exact owes_mv 0 (by kernel_rfl) (by kernel_rfl) (by kernel_rfl) sl0 (fun _ => rfl)
    · refine owes_v (Go.Op.call { callee := Go.Callee.value (Go.Operand.func 51), args := #[Go.Operand.tmp 22, Go.Operand.const (Go.Value.int Go.IntKind.i64 8), Go.Operand.const (Go.Value.int Go.IntKind.i64 8)], argTypes := #[22, 3, 3] }) 28 [0] (by kernel_rfl) (by kernel_rfl) (by kernel_rfl) rfl fun vals w1 ρ hG hF hρ hcst hfun => ?_
      have e22 : ρ (.tmp 22) = .slice A N c := ((hρ 22).trans (slotJ [0] (by rw [hsz]; decide) (by kernel_rfl))).trans (hF 0 (by decide))
      clear hρ hF sl0 sl4 fin
      exact opv_enter (by go_simp <;> rfl) (of_ret (HNUM.out w1 ((hr.below hG).more hG.size)).1)
    · refine owes_v (Go.Op.load 39 (Go.Operand.tmp 4)) 39 [] (by kernel_rfl) (by kernel_rfl) (by kernel_rfl) rfl fun vals w1 ρ hG hF hρ hcst hfun => ?_
      have e4 : ρ (.tmp 4) = .pointer (some ⟨g, 0, none⟩) := ((hρ 4).trans (slotO [] (by kernel_rfl))).trans sl4
      obtain ⟨k1, k2, k3⟩ := (hk.below hG hk.lt).three
      clear hρ hF hcst hfun sl0 sl4 fin
      exact opv_val (by go_simp <;> rfl) ⟨gw_self _, rfl⟩
    · exact owes_mv 0 (by kernel_rfl) (by kernel_rfl) (by kernel_rfl) sl0 (fun _ => rfl)
    · refine owes_v (Go.Op.call { callee := Go.Callee.value (Go.Operand.func 51), args := #[Go.Operand.tmp 25, Go.Operand.const (Go.Value.int Go.IntKind.i64 28), Go.Operand.const (Go.Value.int Go.IntKind.i64 4)], argTypes := #[22, 3, 3] }) 28 [3] (by kernel_rfl) (by kernel_rfl) (by kernel_rfl) rfl fun vals w1 ρ hG hF hρ hcst hfun => ?_
      have e25 : ρ (.tmp 25) = .slice A N c := ((hρ 25).trans (slotJ [3] (by rw [hsz]; decide) (by kernel_rfl))).trans (hF 3 (by decide))
      clear hρ hF sl0 sl4 fin
      exact opv_enter (by go_simp <;> rfl) (of_ret (HNUM.out w1 ((hr.below hG).more hG.size)).2.1)
    · refine owes_v (Go.Op.convert 28 3 (Go.Operand.tmp 26)) 3 [4] (by kernel_rfl) (by kernel_rfl) (by kernel_rfl) rfl fun vals w1 ρ hG hF hρ hcst hfun => ?_
      have e26 : ρ (.tmp 26) = .int .u64 (sp : Int) := ((hρ 26).trans (slotJ [4] (by rw [hsz]; decide) (by kernel_rfl))).trans (hF 4 (by decide))
      have kw0 : IntKind.i64.wrap ((sp : Int)) = (sp : Int) := wrapIn (by omega) (by omega)
      clear hρ hF hcst hfun sl0 sl4 fin
      exact opv_val (by go_simp <;> rfl) ⟨gw_self _, rfl⟩
    · exact owes_mv 0 (by kernel_rfl) (by kernel_rfl) (by kernel_rfl) sl0 (fun _ => rfl)
    · refine owes_v (Go.Op.call { callee := Go.Callee.value (Go.Operand.func 51), args := #[Go.Operand.tmp 28, Go.Operand.const (Go.Value.int Go.IntKind.i64 32), Go.Operand.const (Go.Value.int Go.IntKind.i64 4)], argTypes := #[22, 3, 3] }) 28 [6] (by kernel_rfl) (by kernel_rfl) (by kernel_rfl) rfl fun vals w1 ρ hG hF hρ hcst hfun => ?_
      have e28 : ρ (.tmp 28) = .slice A N c := ((hρ 28).trans (slotJ [6] (by rw [hsz]; decide) (by kernel_rfl))).trans (hF 6 (by decide))
      clear hρ hF sl0 sl4 fin
      exact opv_enter (by go_simp <;> rfl) (of_ret (HNUM.out w1 ((hr.below hG).more hG.size)).2.2.1)
    · refine owes_v (Go.Op.convert 28 3 (Go.Operand.tmp 29)) 3 [7] (by kernel_rfl) (by kernel_rfl) (by kernel_rfl) rfl fun vals w1 ρ hG hF hρ hcst hfun => ?_
      have e29 : ρ (.tmp 29) = .int .u64 (wd : Int) := ((hρ 29).trans (slotJ [7] (by rw [hsz]; decide) (by kernel_rfl))).trans (hF 7 (by decide))
      have kw0 : IntKind.i64.wrap ((wd : Int)) = (wd : Int) := wrapIn (by omega) (by omega)
      clear hρ hF hcst hfun sl0 sl4 fin
      exact opv_val (by go_simp <;> rfl) ⟨gw_self _, rfl⟩
    · exact owes_mv 0 (by kernel_rfl) (by kernel_rfl) (by kernel_rfl) sl0 (fun _ => rfl)
    · refine owes_v (Go.Op.call { callee := Go.Callee.value (Go.Operand.func 51), args := #[Go.Operand.tmp 31, Go.Operand.const (Go.Value.int Go.IntKind.i64 36), Go.Operand.const (Go.Value.int Go.IntKind.i64 8)], argTypes := #[22, 3, 3] }) 28 [9] (by kernel_rfl) (by kernel_rfl) (by kernel_rfl) rfl fun vals w1 ρ hG hF hρ hcst hfun => ?_
      have e31 : ρ (.tmp 31) = .slice A N c := ((hρ 31).trans (slotJ [9] (by rw [hsz]; decide) (by kernel_rfl))).trans (hF 9 (by decide))
      clear hρ hF sl0 sl4 fin
      exact opv_enter (by go_simp <;> rfl) (of_ret (HNUM.out w1 ((hr.below hG).more hG.size)).2.2.2)
    · refine owes_v (Go.Op.build 41 #[(0, Go.Operand.tmp 23), (1, Go.Operand.tmp 24), (2, Go.Operand.tmp 27), (3, Go.Operand.tmp 30), (4, Go.Operand.tmp 32)]) 41 [1, 2, 5, 8, 10] (by kernel_rfl) (by kernel_rfl) (by kernel_rfl) rfl fun vals w1 ρ hG hF hρ hcst hfun => ?_
      have e23 : ρ (.tmp 23) = .int .u64 (U64 ep) := ((hρ 23).trans (slotJ [1, 2, 5, 8, 10] (by rw [hsz]; decide) (by kernel_rfl))).trans (hF 1 (by decide))
      have e24 : ρ (.tmp 24) = .agg #[.int .i64 s, .int .i64 l, .int .i64 n] := ((hρ 24).trans (slotJ [1, 2, 5, 8, 10] (by rw [hsz]; decide) (by kernel_rfl))).trans (hF 2 (by decide))
      have e27 : ρ (.tmp 27) = .int .i64 (sp : Int) := ((hρ 27).trans (slotJ [1, 2, 5, 8, 10] (by rw [hsz]; decide) (by kernel_rfl))).trans (hF 5 (by decide))
      have e30 : ρ (.tmp 30) = .int .i64 (wd : Int) := ((hρ 30).trans (slotJ [1, 2, 5, 8, 10] (by rw [hsz]; decide) (by kernel_rfl))).trans (hF 8 (by decide))
      have e32 : ρ (.tmp 32) = .int .u64 (U64 lg) := ((hρ 32).trans (slotJ [1, 2, 5, 8, 10] (by rw [hsz]; decide) (by kernel_rfl))).trans (hF 10 (by decide))
      clear hρ hF hcst hfun sl0 sl4 fin
      exact opv_val (by go_simp <;> rfl) ⟨gw_self _, rfl⟩
    · refine owes_v (Go.Op.alloc 41) 0 [] (by kernel_rfl) (by kernel_rfl) (by kernel_rfl) rfl fun vals w1 ρ hG hF hρ hcst hfun => ?_
      clear hρ hF hcst hfun sl0 sl4 fin
      exact opv_val (by go_simp <;> rfl) ⟨Gw.alloc _ _, ⟨_, hG.size, rfl, Bk.new w1 _ _⟩⟩
  · intro vals w1 hG hF
    exact last_list (by kernel_rfl) (by kernel_rfl) (by kernel_rfl) (fin vals w1 hG (hF 12 (by decide +kernel)) (hF 11 (by decide +kernel)))
end Go.Proofs.Ytjcpbhjmmnpjnaa
/- What loamref6.Decode answers of bytes that are long enough. Conditions: lengths. -/
namespace Go.Proofs.Ytjcpbhjmmnpjnaa
set_option linter.unusedVariables false
set_option linter.unusedSimpArgs false
open Go.RowKit
set_option maxRecDepth 100000
set_option maxHeartbeats 2000000
theorem rdec6_long (E : List (BitVec 8)) (A : Option Addr) (c : Nat) (w : World) (h64 : 64 ≤ E.length) (hl : E.length ≤ 2000) (hr : Rd b8 w w.heap.size A E) (ep : BitVec 64) (s l n sp wd : Nat) (lg : BitVec 64)
    (hG : getB E 8 8 = ep ∧ U64 (getB E 16 4) = (s : Int) ∧ U64 (getB E 20 4) = (l : Int) ∧ U64 (getB E 24 4) = (n : Int) ∧ U64 (getB E 28 4) = (sp : Int) ∧ U64 (getB E 32 4) = (wd : Int) ∧ getB E 36 8 = lg) (hX : s ≤ 4294967296 ∧ l ≤ 4294967296 ∧ n ≤ 4294967296 ∧ sp ≤ 4294967296 ∧ wd ≤ 4294967296)
    (er : Int) (xs : List (BitVec 8)) (hE : ∀ W, Calls Try.prog 40 #[blkV ep s l n sp wd lg] W (EncD er xs W)) (bb : Bool) (hw : (er = 1 ∧ bb = false) ∨ (er = 0 ∧ bb = decide (xs = E))) :
    Calls Try.prog 30 #[.slice A E.length c] w (RetP (decR bb (blkV ep s l n sp wd lg)) w) := by
  have hz : U64 0#64 = 0 := by decide +kernel
  obtain ⟨N, hN⟩ : ∃ N, N = E.length := ⟨_, rfl⟩
  have HNUM := Lib.hid (show ∀ W, Rd b8 W W.heap.size A E → Calls Try.prog 51 #[.slice A N c, .int .i64 8, .int .i64 8] W (RetP (.int .u64 (U64 ep)) W) ∧ Calls Try.prog 51 #[.slice A N c, .int .i64 28, .int .i64 4] W (RetP (.int .u64 (sp : Int)) W) ∧ Calls Try.prog 51 #[.slice A N c, .int .i64 32, .int .i64 4] W (RetP (.int .u64 (wd : Int)) W) ∧ Calls Try.prog 51 #[.slice A N c, .int .i64 36, .int .i64 8] W (RetP (.int .u64 (U64 lg)) W) from fun W q =>
    ⟨number_8 E A c N hN 8 ep hG.1 W q (by omega), number_n E A c N hN 28 sp hG.2.2.2.2.1 W q (by omega), number_n E A c N hN 32 wd hG.2.2.2.2.2.1 W q (by omega), number_8 E A c N hN 36 lg hG.2.2.2.2.2.2 W q (by omega)⟩)
  have HNU3 := Lib.hid (show ∀ W, Rd b8 W W.heap.size A E → Calls Try.prog 51 #[.slice A N c, .int .i64 16, .int .i64 4] W (RetP (.int .u64 (s : Int)) W) ∧ Calls Try.prog 51 #[.slice A N c, .int .i64 20, .int .i64 4] W (RetP (.int .u64 (l : Int)) W) ∧ Calls Try.prog 51 #[.slice A N c, .int .i64 24, .int .i64 4] W (RetP (.int .u64 (n : Int)) W) from fun W q =>
    ⟨number_n E A c N hN 16 s hG.2.1 W q (by omega), number_n E A c N hN 20 l hG.2.2.1 W q (by omega), number_n E A c N hN 24 n hG.2.2.2.1 W q (by omega)⟩)
  have HEnc := Lib.hid hE
  have HX := Lib.hid hX
  have HWW := Lib.hid hw
  have HN := Lib.hid hN
  rw [← hN] at h64 ⊢
  have q1 : decide ((N : Int) < 64) = false := by simp; omega
  have p1 : (s : Int) ≤ 4294967296 := by omega
  have p2 : (l : Int) ≤ 4294967296 := by omega
  have p3 : (n : Int) ≤ 4294967296 := by omega
  have p4 : (0 : Int) ≤ (s : Int) := by omega
  have p5 : (0 : Int) ≤ (l : Int) := by omega
  have p6 : (0 : Int) ≤ (n : Int) := by omega
  obtain ⟨W0, hW0⟩ : ∃ X, X = w.alloc (.cells #[.int .u64 0, .int .i64 0, .int .i64 0, .int .i64 0, .int .i64 0, .int .i64 0, .int .u64 0] 41) := ⟨_, rfl⟩
  obtain ⟨H, hH⟩ : ∃ H, H = w.heap.size := ⟨_, rfl⟩
  have HQ := Lib.hid (show Bk W0 H 41 #[.int .u64 0, .int .i64 0, .int .i64 0, .int .i64 0, .int .i64 0, .int .i64 0, .int .u64 0] ∧ Below w.heap.size w W0 ∧ w.heap.size ≤ H from by rw [hW0, hH]; exact ⟨Bk.new w _ _, Gw.alloc w _, Nat.le_refl _⟩)
  have HR0 := Lib.hid ((hr.below HQ.out.2.1).more HQ.out.2.1.size)
  clear hG hX hE hw hN hr hl
  go_enter Try.func30, Try.ntmps30
  go_wp2_with fail
  rw [← hW0, ← hH]
  clear hW0 hH
  refine Calls.mono (HNU3.out _ HR0.out).1 ?_
  rintro e w1 ⟨rfl, b1⟩
  have HQ1 := Lib.hid (And.intro (HQ.out.1.below b1 HQ.out.1.lt) (HQ.out.2.1.trans (b1.mono HQ.out.2.1.size)))
  have HR1 := Lib.hid ((HR0.out.below b1).more b1.size)
  clear b1 HR0
  go_wp2_with fail
  refine Calls.mono (HNU3.out _ HR1.out).2.1 ?_
  rintro e w2 ⟨rfl, b2⟩
  have HQ2 := Lib.hid (And.intro (HQ1.out.1.below b2 HQ1.out.1.lt) (HQ1.out.2.trans (b2.mono HQ1.out.2.size)))
  have HR2 := Lib.hid ((HR1.out.below b2).more b2.size)
  clear b2 HR1 HQ1
  go_wp2_with fail
  refine Calls.mono (HNU3.out _ HR2.out).2.2 ?_
  rintro e w3 ⟨rfl, b3⟩
  have HQ3 := Lib.hid (And.intro (HQ2.out.1.below b3 HQ2.out.1.lt) (HQ2.out.2.trans (b3.mono HQ2.out.2.size)))
  have HR3 := Lib.hid ((HR2.out.below b3).more b3.size)
  clear b3 HR2 HQ2 HNU3
  obtain ⟨K, hK⟩ : ∃ K, K = w3.heap.size := ⟨_, rfl⟩
  obtain ⟨W4, hW4⟩ : ∃ X, X = w3.alloc (.cells #[.int .i64 (s : Int), .int .i64 (l : Int), .int .i64 (n : Int)] 39) := ⟨_, rfl⟩
  have HK4 := Lib.hid (show Bk W4 K 39 #[.int .i64 (s : Int), .int .i64 (l : Int), .int .i64 (n : Int)] from by rw [hW4, hK]; exact Bk.new w3 _ _)
  have b4 : Below w3.heap.size w3 W4 := by rw [hW4]; exact Gw.alloc w3 _
  have HQ4 := Lib.hid (And.intro (HQ3.out.1.below b4 HQ3.out.1.lt) (HQ3.out.2.trans (b4.mono HQ3.out.2.size)))
  have HR4 := Lib.hid ((HR3.out.below b4).more b4.size)
  clear b4 HR3 HQ3
  go_wp2_with fail
  rw [← hW4, ← hK]
  clear hW4 hK
  refine rd6_reg _ _ _ K E A c N s l n sp wd ep lg HR4.out HK4.out HNUM HX.out.2.2.2.1 HX.out.2.2.2.2 rfl rfl rfl ?_
  intro vals w5 hG h5 h33
  obtain ⟨g5, hg5, e5, k5⟩ := h5
  unfold IsV at h33
  simp only [putD, Act.put, List.setIfInBounds_toArray, List.set_cons_zero, List.set_cons_succ, e5, h33]
  have HQ5 := Lib.hid (And.intro (HQ4.out.1.below hG HQ4.out.1.lt) (HQ4.out.2.trans (hG.mono HQ4.out.2.size)))
  have HR5 := Lib.hid ((HR4.out.below hG).more hG.size)
  have HH5 := Lib.hid HQ4.out.1.lt
  have HK5 := Lib.hid k5
  have HH6 := Lib.hid (And.intro HH5.out (And.intro hg5 (hG.size)))
  have HQ45 := Lib.hid HQ4.out.2.size
  have HRA := Lib.hid HR4.out
  have HGG := Lib.hid hG
  clear h33 e5 hG HQ4 HR4 HH5 HK4 HNUM k5 HR5
  refine wp_st6 rfl _ _ rfl g5 #[.int .u64 (U64 ep), .int .i64 (s : Int), .int .i64 (l : Int), .int .i64 (n : Int), .int .i64 (sp : Int), .int .i64 (wd : Int), .int .u64 (U64 lg)] rfl rfl 41 _ HK5.out rfl rfl (by simp [Value.oneCell']) ?_
  intro W6 k6 b6 o6
  have HK6 := Lib.hid k6
  have HB6 := Lib.hid (b6 W4.heap.size HH6.out.2.1)
  obtain ⟨c0, c1, c2, c3, c4, c5, c6⟩ := k6.seven
  clear k6 b6 o6
  go_wp2_with fail
  have HQ6 := Lib.hid (show Bk W6 H 41 #[.int .u64 0, .int .i64 0, .int .i64 0, .int .i64 0, .int .i64 0, .int .i64 0, .int .u64 0] ∧ Below w.heap.size w W6 from ⟨HQ5.out.1.below HB6.out HH6.out.1, HQ5.out.2.trans (HB6.out.mono HQ45.out)⟩)
  have HR6 := Lib.hid (show Rd b8 W6 W6.heap.size A E from (HRA.out.below (HGG.out.trans HB6.out)).more (HGG.out.trans HB6.out).size)
  clear HQ5 HK5 HRA HGG HB6
  have HEn := Lib.hid (HEnc.out W6)
  unfold blkV at HEn
  refine Calls.mono HEn.out ?_
  rintro e w7 ⟨A7, k7, rfl, hk7, hr7, b7⟩
  have HQ7 := Lib.hid (And.intro (HQ6.out.1.below b7 HQ6.out.1.lt) (HQ6.out.2.trans (b7.mono HQ6.out.2.size)))
  have HR7 := Lib.hid ((HR6.out.below b7).more b7.size)
  have HK7 := Lib.hid (HK6.out.below b7 HK6.out.lt)
  have HT7 := Lib.hid hr7
  obtain ⟨M, hM⟩ : ∃ M, M = xs.length := ⟨_, rfl⟩
  have HM := Lib.hid hM
  rw [← hM]
  clear hM hk7 hr7 b7 HEn HEnc HQ6 HR6 HK6 c0 c1 c2 c3 c4 c5 c6
  have HLE := Lib.hid HQ.out.2.2
  clear HQ
  have kc1 := str_conv xs A7 k7 _ w7 HT7.out
  have kc2 := str_conv E A c _ w7 HR7.out
  rw [← HM.out] at kc1
  rw [← HN.out] at kc2
  rcases HWW.out with ⟨rfl, rfl⟩ | ⟨rfl, hbb⟩
  · clear kc1 kc2
    go_wp2_with (refine wp_st6 rfl _ _ rfl H #[.int .u64 0, .int .i64 0, .int .i64 0, .int .i64 0, .int .i64 0, .int .i64 0, .int .u64 0] rfl rfl 41 _ HQ7.out.1 rfl rfl (by simp [Value.oneCell']) ?_; intro w8 k8 b8 o8)
    refine bodyPost_ret (v := .tuple #[blkV 0#64 0 0 0 0 0 0#64, .int .i64 2]) (by unfold blkV; rw [hz]; exact res6 rfl k8 rfl rfl) rfl ⟨rfl, ?_⟩
    exact HQ7.out.2.trans (b8 _ HLE.out)
  · have hs := strB_beq xs E
    rw [show (xs == E) = decide (xs = E) from by rw [Bool.eq_iff_iff]; simp] at hs
    rw [← hbb] at hs
    clear hbb HWW
    cases bb
    · go_wp2_with (refine wp_st6 rfl _ _ rfl H #[.int .u64 0, .int .i64 0, .int .i64 0, .int .i64 0, .int .i64 0, .int .i64 0, .int .u64 0] rfl rfl 41 _ HQ7.out.1 rfl rfl (by simp [Value.oneCell']) ?_; intro w8 k8 b8 o8)
      refine bodyPost_ret (v := .tuple #[blkV 0#64 0 0 0 0 0 0#64, .int .i64 2]) (by unfold blkV; rw [hz]; exact res6 rfl k8 rfl rfl) rfl ⟨rfl, ?_⟩
      exact HQ7.out.2.trans (b8 _ HLE.out)
    · obtain ⟨c0, c1, c2, c3, c4, c5, c6⟩ := HK7.out.seven
      go_wp2_with (refine wp_st6 rfl _ _ rfl H #[.int .u64 (U64 ep), .int .i64 (s : Int), .int .i64 (l : Int), .int .i64 (n : Int), .int .i64 (sp : Int), .int .i64 (wd : Int), .int .u64 (U64 lg)] rfl rfl 41 _ HQ7.out.1 rfl rfl (by simp [Value.oneCell']) ?_; intro w8 k8 b8 o8)
      refine bodyPost_ret (v := .tuple #[blkV ep s l n sp wd lg, .int .i64 0]) (by unfold blkV; exact res6 rfl k8 rfl rfl) rfl ⟨rfl, ?_⟩
      exact HQ7.out.2.trans (b8 _ HLE.out)
end Go.Proofs.Ytjcpbhjmmnpjnaa
/- What both Decodes answer of any bytes of a sector's length. No conditions but the length. -/
namespace Go.Proofs.Ytjcpbhjmmnpjnaa
set_option linter.unusedVariables false
set_option linter.unusedSimpArgs false
open Go.RowKit
set_option maxRecDepth 100000
set_option maxHeartbeats 2000000
theorem leN_lt : ∀ l : List (BitVec 8), l.length ≤ 8 → (leN l).toNat < 2 ^ (8 * l.length)
  | [], _ => by decide
  | b :: r, h => by
    have ih := leN_lt r (by simp at h; omega)
    have hb := b.isLt
    simp only [leN, BitVec.toNat_or, BitVec.toNat_shiftLeft, BitVec.toNat_setWidth, List.length_cons]
    apply Nat.or_lt_two_pow
    · refine Nat.lt_of_le_of_lt (Nat.mod_le _ _) ?_
      rw [Nat.shiftLeft_eq, show 8 * (r.length + 1) = 8 * r.length + 8 by omega, Nat.pow_add]
      exact Nat.mul_lt_mul_of_pos_right ih (by decide)
    · refine Nat.lt_of_le_of_lt (Nat.mod_le _ _) (Nat.lt_of_lt_of_le hb ?_)
      exact Nat.pow_le_pow_right (by decide) (by omega)
theorem getB_lt (bs : List (BitVec 8)) (p : Int) : (getB bs p 4).toNat < 4294967296 := by
  unfold getB
  split
  · have h1 : (seg bs p 4).length ≤ 4 := by unfold seg; rw [List.length_take]; exact Nat.min_le_left _ _
    have h2 := leN_lt (seg bs p 4) (by omega)
    have h3 : 2 ^ (8 * (seg bs p 4).length) ≤ 2 ^ 32 := Nat.pow_le_pow_right (by decide) (by omega)
    have h4 : (2 : Nat) ^ 32 = 4294967296 := by decide
    omega
  · decide
theorem right_sealed (ys : List (BitVec 8)) : rightL (ys ++ tailL (addC 0 ys)) = true := by
  have ht : (tailL (addC 0 ys)).length = 4 := rfl
  rw [rightL_yes _ (by rw [List.length_append]; omega), List.length_append, ht, Nat.add_sub_cancel, List.take_left, List.drop_left]
  simp
def z0 : Sb := ⟨0#64, 0, 0, 0, 0, 0, 0#64⟩
def decO : Option Sb → Value
  | some b => .tuple #[.agg b.cells, .int .i64 0]
  | none => .tuple #[.agg z0.cells, .int .i64 2]
/-- sup.Decode answers r of the bytes E. -/
def DecOK (E : List (BitVec 8)) (r : Option Sb) : Prop := (∀ b, r = some b → b.good) ∧ ∀ A c W, E.length ≤ c → Rd b8 W W.heap.size A E → Calls Try.prog 27 #[.slice A E.length c] W (RetP (decO r) W)
theorem dec_gen (E : List (BitVec 8)) (h64 : 64 ≤ E.length) (hl : E.length ≤ 2000) : ∃ r : Option Sb, DecOK E r ∧ (∀ b, r = some b → b.bytes = E) ∧
    ∀ A c W, E.length ≤ c → Rd b8 W W.heap.size A E → Calls Try.prog 30 #[.slice A E.length c] W (RetP (decO r) W) := by
  have u4 : ∀ p, U64 (getB E p 4) = ((getB E p 4).toNat : Int) := fun p => rfl
  obtain ⟨b, hb⟩ : ∃ b : Sb, b = ⟨getB E 8 8, (getB E 16 4).toNat, (getB E 20 4).toNat, (getB E 24 4).toNat, (getB E 28 4).toNat, (getB E 32 4).toNat, getB E 36 8⟩ := ⟨_, rfl⟩
  have hX := And.intro (Nat.le_of_lt (getB_lt E 16)) (And.intro (Nat.le_of_lt (getB_lt E 20)) (And.intro (Nat.le_of_lt (getB_lt E 24)) (And.intro (Nat.le_of_lt (getB_lt E 28)) (Nat.le_of_lt (getB_lt E 32)))))
  have hG := And.intro (Eq.refl (getB E 8 8)) (And.intro (u4 16) (And.intro (u4 20) (And.intro (u4 24) (And.intro (u4 28) (And.intro (u4 32) (Eq.refl (getB E 36 8)))))))
  by_cases hbad : badS b.s b.l b.n b.sp b.wd
  · have e1 : ∀ W, Calls Try.prog 37 #[blkV b.ep b.s b.l b.n b.sp b.wd b.lg] W (EncD 1 [] W) := fun W => (enc6_bad b.ep b.s b.l b.n b.sp b.wd b.lg W hbad).mono fun _ _ h => ⟨none, 0, h.1, Nat.le_refl _, Rd.nil, h.2⟩
    have e2 : ∀ W, Calls Try.prog 40 #[blkV b.ep b.s b.l b.n b.sp b.wd b.lg] W (EncD 1 [] W) := fun W => (renc6_bad b.ep b.s b.l b.n b.sp b.wd b.lg W hbad).mono fun _ _ h => ⟨none, 0, h.1, Nat.le_refl _, Rd.nil, h.2⟩
    rw [hb] at e1 e2
    refine ⟨none, ⟨fun b e => (by cases e), fun A c W hc q => ?_⟩, fun b e => (by cases e), fun A c W hc q => ?_⟩
    · by_cases hR : rightL E = true
      · exact dec6_any E A c W hc (by omega) q (fun W2 q2 => by have := right_l E A c W2 q2 hc (by omega); rwa [hR] at this) _ _ _ _ _ _ _ hG hX 1 [] e1 false (.inl ⟨rfl, rfl⟩)
      · have hR' : rightL E = false := by simpa using hR
        exact dec6_wrong E A c W (fun W2 q2 => by have := right_l E A c W2 q2 hc (by omega); rwa [hR'] at this) q
    · exact rdec6_long E A c W h64 (by omega) q _ _ _ _ _ _ _ hG hX 1 [] e2 false (.inl ⟨rfl, rfl⟩)
  · have hg : okG b.s b.l b.n = true := by
      cases hg : okG b.s b.l b.n with
      | true => rfl
      | false => exact absurd (.inl hg) hbad
    have h4 : ¬ ((b.sp : Int) < 0 ∨ (1 : Int) < b.sp ∨ (b.wd : Int) < 0 ∨ (b.n : Int) < b.wd) := fun e => hbad (.inr e)
    have gd : b.good := ⟨hg, by omega, by omega⟩
    have e1 : ∀ W, Calls Try.prog 37 #[blkV b.ep b.s b.l b.n b.sp b.wd b.lg] W (EncD 0 b.bytes W) := fun W => (enc6_ok b.ep b.s b.l b.n b.sp b.wd b.lg W gd).mono fun _ _ ⟨A, c, q1, q2, q3, q4, _⟩ => ⟨A, c, q1, q2, q3, q4⟩
    have e2 : ∀ W, Calls Try.prog 40 #[blkV b.ep b.s b.l b.n b.sp b.wd b.lg] W (EncD 0 b.bytes W) := fun W => (renc6_ok b.ep b.s b.l b.n b.sp b.wd b.lg W gd).mono fun _ _ ⟨A, c, q1, q2, q3, q4, _⟩ => ⟨A, c, q1, q2, q3, q4⟩
    have hright : b.bytes = E → rightL E = true := fun e => by
      rw [← e]; unfold Sb.bytes encSB sealC; exact right_sealed _
    obtain ⟨bb, hbb⟩ : ∃ bb, bb = decide (b.bytes = E) := ⟨_, rfl⟩
    have hcells : blkV b.ep b.s b.l b.n b.sp b.wd b.lg = .agg b.cells := rfl
    have hfin : decR bb (.agg b.cells) = decO (if bb = true then some b else none) := by cases bb <;> rfl
    refine ⟨if bb = true then some b else none, ⟨fun b' e => ?_, fun A c W hc q => ?_⟩, fun b' e => ?_, fun A c W hc q => ?_⟩
    · split at e
      · injection e with e; exact e ▸ gd
      · cases e
    · rw [← hfin, ← hcells]
      rw [hb] at e1 ⊢
      by_cases hR : rightL E = true
      · exact dec6_any E A c W hc (by omega) q (fun W2 q2 => by have := right_l E A c W2 q2 hc (by omega); rwa [hR] at this) _ _ _ _ _ _ _ hG hX 0 _ e1 bb (.inr ⟨rfl, by rw [hbb, hb]⟩)
      · have hbf : bb = false := by
          rw [hbb]; exact decide_eq_false (fun e => hR (hright e))
        have hR' : rightL E = false := by simpa using hR
        rw [hbf]
        exact dec6_wrong E A c W (fun W2 q2 => by have := right_l E A c W2 q2 hc (by omega); rwa [hR'] at this) q
    · split at e
      · rename_i hy
        injection e with e
        rw [← e]
        rw [hbb] at hy
        exact of_decide_eq_true hy
      · cases e
    · rw [← hfin, ← hcells]
      rw [hb] at e2 ⊢
      exact rdec6_long E A c W h64 (by omega) q _ _ _ _ _ _ _ hG hX 0 _ e2 bb (.inr ⟨rfl, by rw [hbb, hb]⟩)
theorem DecOK.bytes {b : Sb} (h : b.good) : DecOK b.bytes (some b) :=
  ⟨fun b' e => by injection e with e; exact e ▸ h, fun A c W hc hr => dec6_ok b.ep b.s b.l b.n b.sp b.wd b.lg A c W h hc hr⟩
theorem DecOK.zeros (n : Nat) (h1 : 64 ≤ n) (h2 : n ≤ 2000) : DecOK (List.replicate n 0#8) none := by
  obtain ⟨r, h, hb, _⟩ := dec_gen (List.replicate n 0#8) (by rw [List.length_replicate]; exact h1) (by rw [List.length_replicate]; exact h2)
  cases r with
  | none => exact h
  | some b =>
    have e := hb b rfl
    have m := magicB b.ep b.s b.l b.n b.sp b.wd b.lg
    unfold Sb.bytes at e
    rw [e, List.take_replicate, Nat.min_eq_left (by omega)] at m
    exact absurd m (by decide)
end Go.Proofs.Ytjcpbhjmmnpjnaa
/- A region that keeps its order, by a fact for each of its operations. No conditions. -/
namespace Go.Proofs.Ytjcpbhjmmnpjnaa
set_option linter.unusedVariables false
set_option linter.unusedSimpArgs false
open Go.RowKit
section
variable {P : Program} {ops : Array Oper} {Q : Exit → Act → World → Prop} {G : World → World → Prop} {F : Nat → Value → World → Prop} {a0 : Act} {w0 : World}
theorem list_facts0 (hrefl : G w0 w0) (htrans : ∀ a b c, G a b → G b c → G a c) (hmono : ∀ j, j < ops.size → ∀ v a b, F j v a → G a b → F j v b)
    (hreg : regB ops a0.tmps.size = true) (howes : ∀ i, i < ops.size → Owes P ops Q G F a0 w0 i)
    (fin : ∀ (vals : Nat → Value) (w : World), G w0 w → (∀ j, j < ops.size → F j (vals j) w) → Q .normal (putL ops vals (List.range ops.size) a0) w) :
    wpList P ops Q ops.toList a0 w0 := by
  have main : ∀ (n k : Nat) (a : Act) (w : World), k + n = ops.size → G w0 w → a.defers = a0.defers → a.tmps.size = a0.tmps.size →
      (∀ j, j < k → F j (valAt ops a j) w) → (∀ t, (∀ j, j < k → dstOf ops j ≠ some t) → a.tmps.getD t undef = a0.tmps.getD t undef) →
      wpOps P ops Q (List.range' k n) a w := by
    intro n
    induction n with
    | zero =>
      intro k a w hk hG hd hs hF hR
      obtain rfl : k = ops.size := by omega
      show Q .normal a w
      have := fin (valAt ops a) w hG hF
      rw [putL_whole a (List.range ops.size) a0 hs.symm hd.symm] at this
      · exact this
      · intro t
        by_cases e : ∃ j, j < ops.size ∧ dstOf ops j = some t
        · obtain ⟨j, hj, hjd⟩ := e
          exact .inr ⟨j, List.mem_range.2 hj, hjd⟩
        · left
          exact (hR t fun j hj he => e ⟨j, hj, he⟩).symm
    | succ n ih =>
      intro k a w hk hG hd hs hF hR
      have hlt : k < ops.size := by omega
      rw [List.range'_succ, wpOps_cons]
      have hw : ∀ i j, i < ops.size → waitsB ops i j = true → j < i := by
        intro i j hi hj
        obtain ⟨o', ho', e, he, hb, rfl⟩ := waits_some hj
        obtain ⟨o, d, ho, _, _, _, hh⟩ := regB_at hreg hi
        rw [ho] at ho'
        injection ho' with ho'
        subst ho'
        exact hh e he hb
      have hlt2 : ∀ j t, dstOf ops j = some t → j < ops.size := by
        intro j t h
        rcases Nat.lt_or_ge j ops.size with hl | hl
        · exact hl
        · unfold dstOf at h; rw [Array.getElem?_eq_none hl] at h; cases h
      have hstep := howes k hlt a w hG hd hs (fun j hj => hF j (hw k j hlt hj)) (fun t ht => hR t fun j hj he => by
        have h1 := ht j he
        have := hw j k (hlt2 j t he) h1
        omega)
      refine wpOp_mono ?_ hstep
      rintro a' w' ⟨v, rfl, hg, hf⟩
      obtain ⟨o2, d, ho2, hd2, hdl, hdd, _⟩ := regB_at hreg hlt
      have hdo : dstOf ops k = some d := by unfold dstOf; rw [ho2]; exact hd2
      rw [hdo]
      refine ih (k + 1) (a.put (some d) v) w' (by omega) (htrans _ _ _ hG hg) (by exact hd) (by rw [put_size, hs]) ?_ ?_
      · intro j hj
        by_cases e : j = k
        · subst e
          unfold valAt
          rw [hdo]
          simp only
          rw [put_same _ _ _ (by rw [hs]; exact hdl)]
          exact hf
        · have h1 := hmono j (by omega) _ _ _ (hF j (by omega)) hg
          have h2 : valAt ops (a.put (some d) v) j = valAt ops a j := by
            unfold valAt
            have hne := hdd j (by omega) e
            cases hjd : dstOf ops j with
            | none => rfl
            | some dj =>
              simp only
              exact put_other _ _ _ _ (fun h => hne (by rw [hjd]; exact h.symm))
          rw [h2]
          exact h1
      · intro t ht
        have h1 : some d ≠ some t := fun h => ht k (by omega) (by rw [hdo]; exact h)
        rw [put_other _ _ _ _ h1]
        exact hR t fun j hj => ht j (by omega)
  rw [← wpOps_eq_wpList ops.toList 0 (by simp), Array.length_toList]
  exact main ops.size 0 a0 w0 (by omega) hrefl rfl rfl (fun j hj => absurd hj (by omega)) (fun t _ => rfl)
end
section
variable {P : Program} {ops : Array Oper} {Q : Exit → Act → World → Prop} {F : Nat → Value → World → Prop} {a0 : Act} {w0 : World}
/-- An operation under a guard that itself was left out. -/
theorem owes_un {i : Nat} (k : Nat) (want : Bool) (hg : (ops[i]?).bind (·.guard) = some (k, want)) (hk : waitsB ops i k = true) (hc : ∀ v w, F k v w → v = undef)
    (hsz : ((dstOf ops k).map fun d => decide (d < a0.tmps.size)) = some true) (hF : ∀ w, F i undef w) : Owes P ops Q (fun w w' => Below w.heap.size w w') F a0 w0 i := by
  cases hi : ops[i]? with
  | none => rw [hi] at hg; cases hg
  | some o =>
    rw [hi] at hg
    intro a w hG hd hs hF' hR
    have hy : yielded ops a.tmps k = none := by
      have h1 := hc _ _ (hF' k hk)
      unfold valAt at h1
      unfold yielded
      cases hkd : dstOf ops k with
      | none => rw [hkd] at hsz; cases hsz
      | some d =>
        rw [hkd] at hsz h1
        have hl : d < a.tmps.size := by rw [hs]; simpa using hsz
        unfold dstOf at hkd
        rw [hkd]
        simp only [Option.bind_some] at h1 ⊢
        rw [Array.getD_eq_getD_getElem?, Array.getElem?_eq_getElem hl] at h1
        rw [Array.getElem?_eq_getElem hl]
        simp only [Option.getD_some] at h1
        rw [h1]
        rfl
    unfold wpOp
    rw [hi]
    have hw : Region.wanted o (yielded ops a.tmps) = false := by
      unfold Region.wanted
      rw [show o.guard = some (k, want) from hg]
      simp only [hy]
      cases want <;> rfl
    simp only [hw, Bool.false_eq_true, if_false]
    exact ⟨undef, by unfold dstOf; rw [hi]; rfl, Below.refl _ _, hF _⟩
end
/-- A region's operations from the k-th on, each of which waits for all that stand ahead of it. -/
def cutOps (k : Nat) (ops : Array Oper) : List Oper := ops.toList.drop k
def fullO (k : Nat) (p : Oper × Nat) : Oper := { p.1 with guard := p.1.guard.map fun g => (g.1 - k, g.2), after := ((List.range p.2).map fun j => ({ on := j, ground := .data } : Edge)).toArray }
def fullOps (k : Nat) (ops : Array Oper) : Array Oper := ((cutOps k ops).zipIdx.map (fullO k)).toArray
def cutB (k : Nat) (ops : Array Oper) : Bool := (cutOps k ops).all fun o => match o.guard with | none => true | some g => decide (k ≤ g.1)
theorem fullO_wp {P : Program} {k i : Nat} {o : Oper} {a : Act} {w : World} {K : Act → World → Prop} {Q : Exit → Act → World → Prop} (h : (fullO k (o, i)).wp P a w K Q) : o.wp P a w K Q := by
  cases o
  exact h
theorem fullO_asks {P : Program} {k i : Nat} {o : Oper} {a : Act} {w : World} (h : (fullO k (o, i)).asks P a w) : o.asks P a w := by
  cases o
  exact h
theorem fullO_dst (k i : Nat) (o : Oper) : (fullO k (o, i)).dst = o.dst := rfl
theorem full_get {ops : Array Oper} {k j : Nat} (h : k ≤ j) : ((fullOps k ops)[j - k]?).bind (·.dst) = (ops[j]?).bind (·.dst) := by
  unfold fullOps cutOps
  rw [List.getElem?_toArray, List.getElem?_map, List.getElem?_zipIdx, List.getElem?_drop]
  rw [show k + (j - k) = j by omega, Array.getElem?_toList]
  cases ops[j]? with
  | none => rfl
  | some o => rfl
theorem full_list {P : Program} {ops : Array Oper} {Q : Exit → Act → World → Prop} {k : Nat} : ∀ (l : List Oper) (i : Nat), (l.all fun o => match o.guard with | none => true | some g => decide (k ≤ g.1)) = true →
    ∀ a w, wpList P (fullOps k ops) Q ((l.zipIdx i).map (fullO k)) a w → wpList P ops Q l a w
  | [], _, _, _, _, h => h
  | o :: l, i, hg, a, w, h => by
    rw [List.all_cons, Bool.and_eq_true] at hg
    have hw : Region.wanted (fullO k (o, i)) (yielded (fullOps k ops) a.tmps) = Region.wanted o (yielded ops a.tmps) := by
      unfold Region.wanted fullO
      cases hgd : o.guard with
      | none => rfl
      | some g =>
        have hk : k ≤ g.1 := by have := hg.1; rw [hgd] at this; simpa using this
        have : yielded (fullOps k ops) a.tmps (g.1 - k) = yielded ops a.tmps g.1 := by unfold yielded; rw [full_get hk]
        obtain ⟨g1, g2⟩ := g
        simp only [Option.map_some] at this ⊢
        rw [this]
    rw [List.zipIdx_cons, List.map_cons] at h
    unfold wpList at h ⊢
    rw [hw] at h
    split
    · rename_i hy
      rw [if_pos hy] at h
      rcases h with h | h
      · exact .inl (Oper.wp_mono (fun a w h => full_list l (i + 1) hg.2 a w h) (fullO_wp h))
      · exact .inr ⟨fullO_asks h.1, h.2⟩
    · rename_i hy
      rw [if_neg hy] at h
      exact full_list l (i + 1) hg.2 _ _ h
/-- The rest of a region, from the k-th operation on, by a fact for each of its operations. -/
theorem list_by0 {P : Program} {ops0 ops : Array Oper} {Q : Exit → Act → World → Prop} {G : World → World → Prop} {a0 : Act} {w0 : World} {k : Nat} {rest : List Oper} (Fs : List (Value → World → Prop)) (ds : List Tmp)
    (ho : fullOps k ops0 = ops) (hr : rest = cutOps k ops0) (hc : cutB k ops0 = true)
    (hrefl : G w0 w0) (htrans : ∀ a b c, G a b → G b c → G a c)
    (hreg : regB ops a0.tmps.size = true) (hds : (List.range' 0 ops.size).map (dstOf ops) = ds.map some)
    (hmono : ∀ f ∈ Fs, ∀ v a b, f v a → G a b → f v b)
    (howes : AllN (Owes P ops Q G (fun j => Fs.getD j fun _ _ => True) a0 w0) ops.size 0)
    (fin : ∀ (vals : Nat → Value) (w : World), G w0 w → (∀ j, j < ops.size → (Fs.getD j fun _ _ => True) (vals j) w) → Q .normal (putD vals ds 0 a0) w) :
    wpList P ops0 Q rest a0 w0 := by
  subst hr
  have h : wpList P ops Q ops.toList a0 w0 := by
    refine list_facts0 hrefl htrans ?_ hreg (fun i hi => howes.at_ _ _ i (by omega) (by omega)) ?_
    · intro j _ v a b h g
      rw [List.getD_eq_getElem?_getD] at h ⊢
      cases hj : Fs[j]? with
      | none => rw [hj] at h; exact trivial
      | some f => rw [hj] at h; exact hmono f (List.mem_of_getElem? hj) v a b h g
    · intro vals w hG hF
      rw [List.range_eq_range', putD_eq vals ds ops.size 0 a0 hds]
      exact fin vals w hG hF
  subst ho
  exact full_list _ 0 hc a0 w0 h
end Go.Proofs.Ytjcpbhjmmnpjnaa
/- What slots.Both tells. Conditions: the disk is on, it has two sectors. -/
namespace Go.Proofs.Ytjcpbhjmmnpjnaa
set_option linter.unusedVariables false
set_option linter.unusedSimpArgs false
open Go.RowKit Go.Maps
set_option maxRecDepth 100000
set_option maxHeartbeats 2000000
theorem put_comm (a : Act) (i j : Nat) (u v : Value) (h : i ≠ j) : (a.put (some i) u).put (some j) v = (a.put (some j) v).put (some i) u := by
  simp only [Act.put]
  congr 1
  rw [Array.setIfInBounds_comm _ _ h]
theorem wpOp_of {P : Program} {ops : Array Oper} {Q : Exit → Act → World → Prop} {i : Nat} {K : Act → World → Prop} {a : Act} {w : World} {d : Option Tmp} {op : Op} (h : (ops[i]?).map (fun o => (o.dst, o.op, o.guard)) = some (d, op, none)) (hk : ∀ o : Oper, o.dst = d → o.op = op → o.wp P a w K Q) : wpOp P ops Q i K a w := by
  cases ho : ops[i]? with
  | none => rw [ho] at h; cases h
  | some o =>
    rw [ho] at h
    simp only [Option.map_some, Option.some.injEq, Prod.mk.injEq] at h
    unfold wpOp
    rw [ho]
    simp only [Region.wanted, h.2.2, if_true]
    exact .inl (hk o h.1 h.2.1)
theorem wp_set {P : Program} {o : Oper} {a : Act} {w : World} {K : Act → World → Prop} {Q : Exit → Act → World → Prop} {v : Value} (ho : o.op = .assign (.const v)) (h : K (a.put o.dst v) w) : o.wp P a w K Q := by
  unfold Oper.wp execOp
  rw [ho]
  exact h
theorem srow_below {w : World} {B g : Nat} (hB : B ≤ g) (cs : Array Value) : Below B w (w.setRow g cs) :=
  ⟨rfl, rfl, rfl, by simp, fun k hk => setRow_other w g k cs (by omega)⟩
theorem srow_bk {w : World} {g : Nat} {E : TypeId} {old cs : Array Value} (h : Bk w g E old) : Bk (w.setRow g cs) g E cs := setRow_heap w g old cs E (0, 0) h
theorem srow_far {w : World} {g k : Nat} {E : TypeId} {cs ds : Array Value} (h : Bk w k E ds) (hk : k ≠ g) : Bk (w.setRow g cs) k E ds := (setRow_other w g k cs hk).trans h
theorem both_end (Q : Exit → Act → World → Prop) (a0 : Act) (w : World) (G2 G3 G5 G6 : Nat) (c14 c2 x14 x2 : Array Value) (h5 : Bk w G5 33 c14) (h6 : Bk w G6 34 c2) (h2 : Bk w G2 33 x14) (h3 : Bk w G3 34 x2)
    (hc : c14.size = 14) (hr : c2.size = 2) (hx : x14.size = 14) (hy : x2.size = 2) (oc : c14.all (·.oneCell') = true) (or_ : c2.all (·.oneCell') = true) (hne : G2 ≠ G3) (h26 : G6 ≠ G2) (hsz : a0.tmps.size = 53)
    (s2 : a0.tmps.getD 2 undef = .pointer (some ⟨G2, 0, none⟩)) (s3 : a0.tmps.getD 3 undef = .pointer (some ⟨G3, 0, none⟩)) (s5 : a0.tmps.getD 5 undef = .pointer (some ⟨G5, 0, none⟩)) (s6 : a0.tmps.getD 6 undef = .pointer (some ⟨G6, 0, none⟩))
    (fin : ∀ w', Bk w' G2 33 c14 → Bk w' G3 34 c2 → (∀ B, B ≤ G2 → B ≤ G3 → Below B w w') → Q .normal (((a0.put (some 51) (.agg c14)).put (some 52) (.agg c2)).put (some 4) (.int .i64 0)) w') :
    (Code.region 13 (regIn Try.f9 13) true).wp Try.prog Q a0 w := by
  have fin3 : ∀ (w1 : World), Bk w1 G2 33 c14 → Bk w1 G3 34 x2 → (∀ B, B ≤ G2 → Below B w w1) → wpAny Try.prog .any (regIn Try.f9 13) Q 2 #[true, true, true, false, false] ((a0.put (some 51) (.agg c14)).put (some 52) (.agg c2)) w1 := by
    intro w1 k2 k3 hb
    have e3 : ((a0.put (some 51) (.agg c14)).put (some 52) (.agg c2)).eval (.tmp 3) = .pointer (some ⟨G3, 0, none⟩) := ((put_other _ _ _ _ (by decide)).trans (put_other _ _ _ _ (by decide))).trans s3
    have e52 : ((a0.put (some 51) (.agg c14)).put (some 52) (.agg c2)).eval (.tmp 52) = .agg c2 := put_same _ _ _ (by rw [put_size, hsz]; decide)
    obtain ⟨A, hA⟩ : ∃ A, A = ((a0.put (some 51) (.agg c14)).put (some 52) (.agg c2)) := ⟨_, rfl⟩
    rw [← hA] at fin e3 e52 ⊢
    refine wpAny_all (rs := [3]) (by kernel_rfl) (by decide) fun i hi => ?_
    obtain rfl := List.mem_singleton.1 hi
    refine wpOp_of (d := none) (op := .store 34 (.tmp 3) (.tmp 52)) (by kernel_rfl) fun o hd ho => ?_
    refine wp_store_row 34 _ _ ho G3 c2 e3 e52 _ x2 k3 (by rw [hr]; kernel_rfl) (by rw [hr, hy]) or_ ?_
    rw [hd]
    refine wpAny_all (rs := [4]) (by kernel_rfl) (by decide) fun i hi => ?_
    obtain rfl := List.mem_singleton.1 hi
    refine wpOp_of (d := some 4) (op := .assign (.const (.int .i64 0))) (by kernel_rfl) fun o hd ho => ?_
    refine wp_set ho ?_
    rw [hd]
    refine wpAny_done (by kernel_rfl) ?_ 0
    exact fin _ (srow_far k2 hne) (srow_bk k3) (fun B h1 h2 => (hb B h1).trans (srow_below h2 _))
  have fin2 : ∀ (w1 : World), Bk w1 G2 33 x14 → Bk w1 G3 34 x2 → (∀ B, Below B w w1) → wpAny Try.prog .any (regIn Try.f9 13) Q 3 #[true, true, false, false, false] ((a0.put (some 51) (.agg c14)).put (some 52) (.agg c2)) w1 := by
    intro w1 k2 k3 hb
    have e2 : ((a0.put (some 51) (.agg c14)).put (some 52) (.agg c2)).eval (.tmp 2) = .pointer (some ⟨G2, 0, none⟩) := ((put_other _ _ _ _ (by decide)).trans (put_other _ _ _ _ (by decide))).trans s2
    have e51 : ((a0.put (some 51) (.agg c14)).put (some 52) (.agg c2)).eval (.tmp 51) = .agg c14 := (put_other _ _ _ _ (by decide)).trans (put_same _ _ _ (by rw [hsz]; decide))
    refine wpAny_all (rs := [2]) (by kernel_rfl) (by decide) fun i hi => ?_
    obtain rfl := List.mem_singleton.1 hi
    refine wpOp_of (d := none) (op := .store 33 (.tmp 2) (.tmp 51)) (by kernel_rfl) fun o hd ho => ?_
    refine wp_store_row 33 _ _ ho G2 c14 e2 e51 _ x14 k2 (by rw [hc]; kernel_rfl) (by rw [hc, hx]) oc ?_
    rw [hd]
    exact fin3 _ (srow_bk k2) (srow_far k3 (Ne.symm hne)) (fun B h1 => (hb B).trans (srow_below h1 _))
  have hdr : ∀ B, Below B w { w with drawn := w.drawn + 1 } := fun B => (Below.refl B w).drew
  refine wp_region_any (by kernel_rfl) ?_
  refine wpAny_all (rs := [0, 1]) (by kernel_rfl) (by decide) fun i hi => ?_
  rcases List.mem_cons.1 hi with rfl | hi
  · refine wpOp_of (d := some 51) (op := .load 33 (.tmp 5)) (by kernel_rfl) fun o hd ho => ?_
    refine wp_load_row 33 _ ho G5 s5 _ c14 (0, 0) _ h5 Try.underlying33 rfl (by rw [hc]; kernel_rfl) ?_
    rw [hd]
    refine wpAny_all (rs := [1, 2]) (by kernel_rfl) (by decide) fun i hi => ?_
    rcases List.mem_cons.1 hi with rfl | hi
    · refine wpOp_of (d := some 52) (op := .load 34 (.tmp 6)) (by kernel_rfl) fun o hd ho => ?_
      refine wp_load_row 34 _ ho G6 ((put_other _ _ _ _ (by decide)).trans s6) _ c2 (0, 0) _ h6 Try.underlying34 rfl (by rw [hr]; kernel_rfl) ?_
      rw [hd]
      exact fin2 _ h2 h3 hdr
    · obtain rfl := List.mem_singleton.1 hi
      refine wpOp_of (d := none) (op := .store 33 (.tmp 2) (.tmp 51)) (by kernel_rfl) fun o hd ho => ?_
      refine wp_store_row 33 _ _ ho G2 c14 ((put_other _ _ _ _ (by decide)).trans s2) (put_same _ _ _ (by rw [hsz]; decide)) _ x14 h2 (by rw [hc]; kernel_rfl) (by rw [hc, hx]) oc ?_
      rw [hd]
      refine wpAny_all (rs := [1]) (by kernel_rfl) (by decide) fun i hi => ?_
      obtain rfl := List.mem_singleton.1 hi
      refine wpOp_of (d := some 52) (op := .load 34 (.tmp 6)) (by kernel_rfl) fun o hd ho => ?_
      refine wp_load_row 34 _ ho G6 ((put_other a0 (some 51) (.agg c14) 6 (by decide)).trans s6) _ c2 (0, 0) _ (srow_far h6 h26) Try.underlying34 rfl (by rw [hr]; kernel_rfl) ?_
      rw [hd]
      exact fin3 _ (srow_bk h2) (srow_far h3 (Ne.symm hne)) (fun B h1 => (hdr B).trans (srow_below h1 _))
  · obtain rfl := List.mem_singleton.1 hi
    refine wpOp_of (d := some 52) (op := .load 34 (.tmp 6)) (by kernel_rfl) fun o hd ho => ?_
    refine wp_load_row 34 _ ho G6 s6 _ c2 (0, 0) _ h6 Try.underlying34 rfl (by rw [hr]; kernel_rfl) ?_
    rw [hd]
    refine wpAny_all (rs := [0]) (by kernel_rfl) (by decide) fun i hi => ?_
    obtain rfl := List.mem_singleton.1 hi
    refine wpOp_of (d := some 51) (op := .load 33 (.tmp 5)) (by kernel_rfl) fun o hd ho => ?_
    refine wp_load_row 33 _ ho G5 ((put_other _ _ _ _ (by decide)).trans s5) _ c14 (0, 0) _ h5 Try.underlying33 rfl (by rw [hc]; kernel_rfl) ?_
    rw [hd]
    have e : ((a0.put (some 52) (.agg c2)).put (some 51) (.agg c14)) = ((a0.put (some 51) (.agg c14)).put (some 52) (.agg c2)) := put_comm _ _ _ _ _ (by decide)
    show wpAny Try.prog .any (regIn Try.f9 13) Q 3 #[true, true, false, false, false] ((a0.put (some 52) (.agg c2)).put (some 51) (.agg c14)) _
    rw [e]
    exact fin2 _ h2 h3 hdr
theorem both_res {tmps : Array Value} {W : World} {g2 g3 : Nat} {E F : TypeId} {cs ds : Array Value} {y : Value} (hs : cs.size = 14) (hb : Bk W g2 E cs) (hs2 : ds.size = 2) (hb2 : Bk W g3 F ds) (h2 : tmps.getD 2 undef = .pointer (some ⟨g2, 0, none⟩)) (h3 : tmps.getD 3 undef = .pointer (some ⟨g3, 0, none⟩)) (h4 : tmps.getD 4 undef = y) :
    (results Try.f9 tmps).run Try.prog W = .ok (.tuple #[.agg cs, .agg ds, y]) W := by
  have hl := run_loadVar_row (P := Try.prog) W g2 E 33 cs (0, 0) _ hb Try.underlying33 rfl (by rw [hs]; kernel_rfl)
  have hl2 := run_loadVar_row (P := Try.prog) W g3 F 34 ds (0, 0) _ hb2 Try.underlying34 rfl (by rw [hs2]; kernel_rfl)
  have h2' : tmps[2]?.getD undef = .pointer (some ⟨g2, 0, none⟩) := by simpa using h2
  have h3' : tmps[3]?.getD undef = .pointer (some ⟨g3, 0, none⟩) := by simpa using h3
  have h4' : tmps[4]?.getD undef = y := by simpa using h4
  simp [results, Try.results9, h2', h3', h4', asAddr, hl, hl2]
end Go.Proofs.Ytjcpbhjmmnpjnaa
