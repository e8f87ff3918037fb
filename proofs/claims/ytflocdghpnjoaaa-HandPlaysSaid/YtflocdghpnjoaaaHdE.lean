/- What hand.Table's For and Nodes answer. Conditions: at most 256 handles. -/
import Derived.Test.YtflocdghpnjoaaaHdD
import Derived.LoopTactic
namespace Go.Proofs.Ytflocdghpnjoaaa
set_option linter.unusedVariables false
set_option linter.unusedSimpArgs false
open Go.RowKit Go.Maps
theorem i64_one (x : Int) : (i64 x).oneCell' = true := rfl
theorem oneI : One Try.prog 27 3 (.int .i64 0) 8 :=
  ⟨by kernel_rfl, by
    have h : (Try.prog.info? 3).map (fun i => (i.zero, i.size, i.bytes)) = some (some (.int .i64 0), 1, 8) := by kernel_rfl
    obtain ⟨i, h1, h2, h3, h4⟩ := info_parts h
    exact ⟨i, h1, h2, h3, h4⟩, rfl⟩
theorem Rise.look {l : List (Int × Int)} (h : Rise l) (j : Nat) (hj : j < l.length) : lookI l l[j].1 = some l[j].2 := by
  have e : l = l.take j ++ l[j] :: l.drop (j + 1) := by rw [List.getElem_cons_drop, List.take_append_drop]
  have h' := h
  rw [e] at h'
  have hm := look_mid (l.take j) (l.drop (j + 1)) l[j].1 l[j].2 h'.mid.1
  rw [← e] at hm
  exact hm
set_option maxHeartbeats 400000
set_option maxRecDepth 100000
theorem hfor_hit (w : World) (g : Nat) (mb : Option Nat) (l : List (Int × Int)) (last : Nat) (h : TabAt w g mb l last) (n : Int) (j0 : Nat) (hj0 : j0 < l.length) (hn : l[j0].2 = n) (ha : ∀ j (hj : j < j0), l[j].2 ≠ n) :
    Calls Try.prog 10 #[.pointer (some ⟨g, 0, none⟩), .int .i64 n] w fun e w' => e = .returned (.tuple #[.int .i64 l[j0].1, .int .i64 0]) ∧ Below w.heap.size w w' := by
  have HL := Lib.hid (hlive_c w g mb l last h)
  have HX := Lib.hid h
  have HA := Lib.hid ha
  obtain ⟨x0, hx0⟩ : ∃ x, x = l[j0].1 := ⟨_, rfl⟩
  rw [← hx0]
  have HX0 := Lib.hid hx0
  have HN := Lib.hid hn
  have hlen := h.len
  obtain ⟨N, hN⟩ : ∃ N, N = l.length := ⟨_, rfl⟩
  have HNN := Lib.hid hN
  have hjN : (j0 : Int) < (N : Int) := by omega
  have hN2 : (N : Int) ≤ 256 := by omega
  clear h ha hx0 hn hlen hN
  go_enter Try.func10, Try.ntmps10
  go_wp2_with fail
  refine Calls.mono HL.out ?_
  rintro e w1 ⟨v, rfl, ho, hb⟩
  obtain ⟨A, c, rfl, hc⟩ := ho.form
  rw [List.length_map, ← HNN.out]
  have HO := Lib.hid ho
  have HB := Lib.hid hb
  have H1 := Lib.hid (HX.out.below hb)
  clear ho hb hc HL
  obtain ⟨c0, c1⟩ := H1.out.blk.two
  go_wp2_with fail
  go_loopw [11] (fun i wr => ∃ k : Nat, k ≤ j0 ∧ i = .int .i64 k ∧ wr = w1) (fun i _ => j0 - (intOf i).toNat)
  case atStart => exact ⟨0, by omega, rfl, rfl⟩
  case round =>
    obtain ⟨k, hk, rfl, rfl⟩ := hrel
    have p1 : (0 : Int) ≤ (k : Int) := by omega
    have p2 : (k : Int) < (N : Int) := by omega
    have hkl : k < l.length := by rw [← HNN.out]; omega
    obtain ⟨ad, rfl, hadb, hcl⟩ := HO.out.rd k (by simpa using hkl)
    rw [List.getElem_map] at hcl
    unfold i64 at hcl
    have hlk := H1.out.mp.look (H1.out.wfk _ (List.getElem_mem hkl)).1
    rw [HX.out.rise.look k hkl] at hlk
    by_cases hlt : k < j0
    · have hne := HA.out k hlt
      obtain ⟨p, hp⟩ : ∃ p, p = l[k].1 := ⟨_, rfl⟩
      obtain ⟨q, hq⟩ : ∃ q, q = l[k].2 := ⟨_, rfl⟩
      rw [← hp] at hcl hlk
      rw [← hq] at hlk hne
      have hlk' : (Instr.lookup 48 (.map mb) (.int .i64 p) false).run Try.prog wr = .ok (.int .i64 q) wr := hlk
      have t1 : (q == n) = false := by simpa using hne
      clear hp hq hne hlk hkl hadb
      go_wp2_with fail
      go_roundw
      case rel => exact ⟨k + 1, by omega, by go_num, trivial⟩
      case measure => (first | (simp [intOf]; done) | (simp [intOf]; omega))
    · obtain rfl : k = j0 := by omega
      rw [HN.out] at hlk
      rw [← HX0.out] at hcl hlk
      have hlk' : (Instr.lookup 48 (.map mb) (.int .i64 x0) false).run Try.prog wr = .ok (.int .i64 n) wr := hlk
      clear hlk hkl hadb
      go_wp2_with fail
      go_ret2
      exact ⟨rfl, HB.out⟩
theorem hfor_miss (w : World) (g : Nat) (mb : Option Nat) (l : List (Int × Int)) (last : Nat) (h : TabAt w g mb l last) (n x y : Int) (ha : ∀ j (hj : j < l.length), l[j].2 ≠ n) (R : World → World → Prop)
    (hO : ∀ W, Below w.heap.size w W → Calls Try.prog 9 #[.pointer (some ⟨g, 0, none⟩), .int .i64 n] W fun e w' => e = .returned (.tuple #[.int .i64 x, .int .i64 y]) ∧ R W w') :
    Calls Try.prog 10 #[.pointer (some ⟨g, 0, none⟩), .int .i64 n] w fun e w' => e = .returned (.tuple #[.int .i64 x, .int .i64 y]) ∧ ∃ W, Below w.heap.size w W ∧ R W w' := by
  have HL := Lib.hid (hlive_c w g mb l last h)
  have HX := Lib.hid h
  have HA := Lib.hid ha
  have HOP := Lib.hid hO
  have hlen := h.len
  obtain ⟨N, hN⟩ : ∃ N, N = l.length := ⟨_, rfl⟩
  have HNN := Lib.hid hN
  have hN2 : (N : Int) ≤ 256 := by omega
  clear h ha hlen hN hO
  go_enter Try.func10, Try.ntmps10
  go_wp2_with fail
  refine Calls.mono HL.out ?_
  rintro e w1 ⟨v, rfl, ho, hb⟩
  obtain ⟨A, c, rfl, hc⟩ := ho.form
  rw [List.length_map, ← HNN.out]
  have HO := Lib.hid ho
  have HB := Lib.hid hb
  have H1 := Lib.hid (HX.out.below hb)
  clear ho hb hc HL
  obtain ⟨c0, c1⟩ := H1.out.blk.two
  go_wp2_with fail
  go_loopw [11] (fun i wr => ∃ k : Nat, k ≤ N ∧ i = .int .i64 k ∧ wr = w1) (fun i _ => N - (intOf i).toNat)
  case atStart => exact ⟨0, by omega, rfl, rfl⟩
  case round =>
    obtain ⟨k, hk, rfl, rfl⟩ := hrel
    by_cases hlt : k < N
    · have p1 : (0 : Int) ≤ (k : Int) := by omega
      have p2 : (k : Int) < (N : Int) := by omega
      have hkl : k < l.length := by rw [← HNN.out]; omega
      obtain ⟨ad, rfl, hadb, hcl⟩ := HO.out.rd k (by simpa using hkl)
      rw [List.getElem_map] at hcl
      unfold i64 at hcl
      have hlk := H1.out.mp.look (H1.out.wfk _ (List.getElem_mem hkl)).1
      rw [HX.out.rise.look k hkl] at hlk
      have hne := HA.out k hkl
      obtain ⟨p, hp⟩ : ∃ p, p = l[k].1 := ⟨_, rfl⟩
      obtain ⟨q, hq⟩ : ∃ q, q = l[k].2 := ⟨_, rfl⟩
      rw [← hp] at hcl hlk
      rw [← hq] at hlk hne
      have hlk' : (Instr.lookup 48 (.map mb) (.int .i64 p) false).run Try.prog wr = .ok (.int .i64 q) wr := hlk
      have t1 : (q == n) = false := by simpa using hne
      clear hp hq hne hlk hkl hadb
      go_wp2_with fail
      go_roundw
      case rel => exact ⟨k + 1, by omega, by go_num, trivial⟩
      case measure => (first | (simp [intOf]; done) | (simp [intOf]; omega))
    · have HC := Lib.hid (HOP.out wr HB.out)
      go_wp2_with fail
      refine Calls.mono HC.out ?_
      rintro e w2 ⟨rfl, hR⟩
      have HRR := Lib.hid hR
      clear hR
      go_wp2_with fail
      go_ret2
      exact ⟨rfl, wr, HB.out, HRR.out⟩
theorem hnodes_c (w : World) (g : Nat) (mb : Option Nat) (l : List (Int × Int)) (last : Nat) (h : TabAt w g mb l last) :
    Calls Try.prog 17 #[.pointer (some ⟨g, 0, none⟩)] w (NewRow w (l.map (·.2))) := by
  have HL := Lib.hid (hlive_c w g mb l last h)
  have HX := Lib.hid h
  have hlen := h.len
  obtain ⟨N, hN⟩ : ∃ N, N = l.length := ⟨_, rfl⟩
  have HNN := Lib.hid hN
  have hN2 : (N : Int) ≤ 256 := by omega
  clear h hlen hN
  go_enter Try.func17, Try.ntmps17
  go_wp2_with fail
  refine Calls.mono HL.out ?_
  rintro e w1 ⟨v, rfl, ho, hb⟩
  obtain ⟨A, c, rfl, hc⟩ := ho.form
  rw [List.length_map, ← HNN.out]
  have HO := Lib.hid ho
  have HB := Lib.hid hb
  have H1 := Lib.hid (HX.out.below hb)
  clear ho hb hc HL
  go_wp2_with fail
  go_loopw [3, 9] (fun o i wr => ∃ k : Nat, k ≤ N ∧ i = .int .i64 k ∧ Ow i64 3 wr w1.heap.size o ((l.map (·.2)).take k) ∧ Below w1.heap.size w1 wr) (fun _ i _ => N - (intOf i).toNat)
  case atStart => exact ⟨0, by omega, rfl, Ow.nil_ _ _ _ _, Below.refl _ _⟩
  case round =>
    obtain ⟨k, hk, rfl, how, hB⟩ := hrel
    by_cases hlt : k < N
    · have p1 : (0 : Int) ≤ (k : Int) := by omega
      have p2 : (k : Int) < (N : Int) := by omega
      have hkl : k < l.length := by rw [← HNN.out]; omega
      have H2 := Lib.hid (H1.out.below hB)
      obtain ⟨c0, c1⟩ := H2.out.blk.two
      obtain ⟨ad, rfl, hadb, hcl⟩ := (HO.out.below hB).rd k (by simpa using hkl)
      rw [List.getElem_map] at hcl
      unfold i64 at hcl
      have hlk := H2.out.mp.look (H2.out.wfk _ (List.getElem_mem hkl)).1
      rw [HX.out.rise.look k hkl] at hlk
      have hsn : (l.map (·.2)).take (k + 1) = (l.map (·.2)).take k ++ [l[k].2] := by
        rw [List.take_succ_eq_append_getElem (by simpa using hkl), List.getElem_map]
      have htl : ((l.map (·.2)).take k).length = k := by rw [List.length_take, List.length_map]; omega
      obtain ⟨p, hp⟩ : ∃ p, p = l[k].1 := ⟨_, rfl⟩
      obtain ⟨q, hq⟩ : ∃ q, q = l[k].2 := ⟨_, rfl⟩
      rw [← hp] at hcl hlk
      rw [← hq] at hlk hsn
      have hlk' : (Instr.lookup 48 (.map mb) (.int .i64 p) false).run Try.prog wr = .ok (.int .i64 q) wr := hlk
      have HS := Lib.hid hsn
      have HTL := Lib.hid htl
      have HOW := Lib.hid how
      have HBB := Lib.hid hB
      have HSZ := Lib.hid hB.size
      clear hp hq hlk hkl hadb hsn htl how hB
      go_wp2_with (at_builtin; refine wp_app oneI i64_one rfl (.tmp 13) (.tmp 20) rfl w1.heap.size _ _ rfl (HOW.out.alloc _) (some ⟨wr.heap.size, 0, none⟩) 1 1 [q] rfl rfl (wr.heap.size + 1) (rd1_new rfl) (by rw [HTL.out]; simp; omega) (by decide) (by have := HSZ.out; simp; omega) ?_; intro v4 w4 ho4 hb4 hg4 hv4; have HO4 := Lib.hid ho4; have HB4 := Lib.hid (HBB.out.trans ((Below.refl _ _).alloc HSZ.out _ |>.trans hb4)); clear ho4 hb4 hg4 hv4)
      go_roundw
      case rel => exact ⟨k + 1, by omega, by go_num, by rw [HS.out]; exact HO4.out, HB4.out⟩
      case measure => (first | (simp [intOf]; done) | (simp [intOf]; omega))
    · obtain rfl : k = N := by omega
      rw [List.take_of_length_le (by rw [List.length_map, ← HNN.out]; omega)] at how
      have HR := Lib.hid (And.intro (how.mono HB.out.size) (HB.out.trans (hB.mono HB.out.size)))
      clear how hB
      go_wp2_with fail
      go_ret
      exact ⟨_, rfl, HR.out.1, HR.out.2⟩
end Go.Proofs.Ytflocdghpnjoaaa
