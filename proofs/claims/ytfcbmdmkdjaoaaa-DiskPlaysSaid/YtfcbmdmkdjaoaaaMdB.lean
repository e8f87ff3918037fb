/- The cut of the document's disk (loamlaw3.model). Conditions: the sectors are there. -/
import Derived.Test.YtfcbmdmkdjaoaaaMdA
import Derived.Test.YtfcbmdmkdjaoaaaRegT
namespace Go.Proofs.Ytfcbmdmkdjaoaaa
set_option linter.unusedVariables false
set_option linter.unusedSimpArgs false
open Go.RowKit Go.Maps
set_option maxRecDepth 100000
set_option maxHeartbeats 4000000
theorem oneSt : One Try.prog 29 9 (.string ⟨#[]⟩) 16 :=
  ⟨by kernel_rfl, by
    have h : (Try.prog.info? 9).map (fun i => (i.zero, i.size, i.bytes)) = some (some (.string ⟨#[]⟩), 1, 16) := by kernel_rfl
    obtain ⟨i, h1, h2, h3, h4⟩ := info_parts h
    exact ⟨i, h1, h2, h3, h4⟩, rfl⟩
/-- What the first k that wait make of the sectors. -/
def cutK (kp : List Bool) (l : List PW) (ks : List (List (BitVec 8))) : Nat → List (List (BitVec 8))
  | 0 => ks
  | k + 1 => if kp.getD k false then (cutK kp l ks k).set (l.getD k (0, [])).1 (l.getD k (0, [])).2 else cutK kp l ks k
theorem cutK_len (kp : List Bool) (l : List PW) (ks : List (List (BitVec 8))) : ∀ k, (cutK kp l ks k).length = ks.length
  | 0 => rfl
  | k + 1 => by unfold cutK; split <;> simp [cutK_len kp l ks k]
def Mod.cut (m : Mod) (kp : List Bool) : Mod := { m with kept := cutK kp m.wait m.kept m.wait.length, wait := [], off := true, armed := false }
theorem Ow.head_ {α : Type} {f : α → Value} {E : TypeId} {w : World} {base : Nat} {v : Value} {xs : List α} (h : Ow f E w base v xs) (hx : 0 < xs.length) : ∃ q c, v = .slice (some ⟨q, 0, none⟩) xs.length c ∧ base ≤ q := by
  rcases h.2 with ⟨e, hn⟩ | ⟨q, cap, cur, e, hB, hh, _⟩
  · omega
  · exact ⟨q, cap, e, hB⟩
theorem mc5 (Q : Exit → Act → World → Prop) (a0 : Act) (w : World) (g q n c k NW wc ys : Nat) (x1 x3 x4 x5 x6 x7 : Value) (ad2 : Addr) (yb : List (BitVec 8)) (hk : k < NW) (hys : ys < n) (H2 : Hid (w.cell? ⟨g, 2, none⟩ = some (.slice (some ad2) NW wc))) (E0 : Hid (w.cell? (ad2.add (k * 2)) = some (.int .i64 ys))) (E1 : Hid (w.cell? ⟨(ad2.add (k * 2)).block, (ad2.add (k * 2)).off + 1, none⟩ = some (.string (strB yb)))) (HL : Hid (g < w.heap.size ∧ ad2.block < w.heap.size)) (hsz : a0.tmps.size = 62) (sl0 : a0.tmps.getD 0 undef = .pointer (some ⟨g, 0, none⟩)) (sl4 : a0.tmps.getD 4 undef = .slice (some ⟨q, 0, none⟩) n c) (sl5 : a0.tmps.getD 5 undef = .int .i64 k)
    (fin : ∀ (vals : Nat → Value) (w1 : World), Below w.heap.size w w1 → (IsV (.string (strB yb))) (vals 16) w1 → (IsV (.pointer (some ⟨q, ys, none⟩))) (vals 17) w1 → wpList Try.prog #[{ dst := none, op := Go.Op.store 9 (Go.Operand.tmp 48) (Go.Operand.tmp 47), type := 0, pos := "", after := #[], guard := none }] Q [{ dst := none, op := Go.Op.store 9 (Go.Operand.tmp 48) (Go.Operand.tmp 47), type := 0, pos := "", after := #[], guard := none }] (putD vals [31, 32, 33, 34, 35, 36, 37, 38, 39, 40, 41, 42, 43, 44, 45, 46, 47, 48] 0 a0) w1) :
    (Code.region 5 (regIn Try.f15 5) true).wp Try.prog Q a0 w := by
  refine region_by_tail (m := 18) (G := fun w w1 => Below w.heap.size w w1) [IsV (.slice (some ⟨q, 0, none⟩) n c),
    IsV (.pointer (some ⟨g, 0, none⟩)),
    IsV (.pointer (some ⟨g, 0, none⟩)),
    IsV (.pointer (some ⟨g, 2, none⟩)),
    IsV (.slice (some ad2) NW wc),
    IsV (.int .i64 k),
    IsV (.pointer (some (ad2.add (k * 2)))),
    IsV (.pointer (some (ad2.add (k * 2)))),
    IsV (.int .i64 ys),
    IsV (.pointer (some ⟨g, 0, none⟩)),
    IsV (.pointer (some ⟨g, 0, none⟩)),
    IsV (.pointer (some ⟨g, 2, none⟩)),
    IsV (.slice (some ad2) NW wc),
    IsV (.int .i64 k),
    IsV (.pointer (some (ad2.add (k * 2)))),
    IsV (.pointer (some ⟨(ad2.add (k * 2)).block, (ad2.add (k * 2)).off + 1, none⟩)),
    IsV (.string (strB yb)),
    IsV (.pointer (some ⟨q, ys, none⟩))]
    [31, 32, 33, 34, 35, 36, 37, 38, 39, 40, 41, 42, 43, 44, 45, 46, 47, 48] (by kernel_rfl) (Gw.drew _) Gw.trans (by rw [hsz]; kernel_rfl) (by kernel_rfl) ?_ ?_ ?_
  · intro f hf
    simp only [List.mem_cons, List.not_mem_nil, or_false] at hf
    rcases hf with rfl | rfl | rfl | rfl | rfl | rfl | rfl | rfl | rfl | rfl | rfl | rfl | rfl | rfl | rfl | rfl | rfl | rfl <;> intro v a b h g <;> first | exact IsV.mono h
  · refine ⟨?_, ?_, ?_, ?_, ?_, ?_, ?_, ?_, ?_, ?_, ?_, ?_, ?_, ?_, ?_, ?_, ?_, ?_, trivial⟩
    · exact owes_mv 4 (by kernel_rfl) (by kernel_rfl) (by kernel_rfl) sl4 (fun _ => rfl)
    · exact owes_mv 0 (by kernel_rfl) (by kernel_rfl) (by kernel_rfl) sl0 (fun _ => rfl)
    · refine owes_v (Go.Op.nilCheck (Go.Operand.tmp 32)) 0 [1] (by kernel_rfl) (by kernel_rfl) (by kernel_rfl) rfl fun vals w1 ρ hG hF hρ hcst hfun => ?_
      have e32 : ρ (.tmp 32) = .pointer (some ⟨g, 0, none⟩) := ((hρ 32).trans (slotJ [1] (by rw [hsz]; decide) (by kernel_rfl))).trans (hF 1 (by decide))
      clear hρ hF hcst hfun sl0 sl4 sl5 fin
      exact opv_val (by go_simp <;> rfl) ⟨gw_self _, rfl⟩
    · refine owes_v (Go.Op.fieldAddr 33 (Go.Operand.tmp 33) 2) 0 [2] (by kernel_rfl) (by kernel_rfl) (by kernel_rfl) rfl fun vals w1 ρ hG hF hρ hcst hfun => ?_
      have e33 : ρ (.tmp 33) = .pointer (some ⟨g, 0, none⟩) := ((hρ 33).trans (slotJ [2] (by rw [hsz]; decide) (by kernel_rfl))).trans (hF 2 (by decide))
      clear hρ hF hcst hfun sl0 sl4 sl5 fin
      exact opv_val (by go_simp <;> rfl) ⟨gw_self _, rfl⟩
    · refine owes_v (Go.Op.load 30 (Go.Operand.tmp 34)) 30 [3] (by kernel_rfl) (by kernel_rfl) (by kernel_rfl) rfl fun vals w1 ρ hG hF hρ hcst hfun => ?_
      have e34 : ρ (.tmp 34) = .pointer (some ⟨g, 2, none⟩) := ((hρ 34).trans (slotJ [3] (by rw [hsz]; decide) (by kernel_rfl))).trans (hF 3 (by decide))
      have k0 : w1.cell? ⟨g, 2, none⟩ = some (.slice (some ad2) NW wc) := (hG.cell HL.out.1).trans H2.out
      clear hρ hF hcst hfun sl0 sl4 sl5 fin
      exact opv_val (by go_simp <;> rfl) ⟨gw_self _, rfl⟩
    · exact owes_mv 5 (by kernel_rfl) (by kernel_rfl) (by kernel_rfl) sl5 (fun _ => rfl)
    · refine owes_v (Go.Op.indexAddr 30 (Go.Operand.tmp 35) (Go.Operand.tmp 36)) 0 [4, 5] (by kernel_rfl) (by kernel_rfl) (by kernel_rfl) rfl fun vals w1 ρ hG hF hρ hcst hfun => ?_
      have e35 : ρ (.tmp 35) = .slice (some ad2) NW wc := ((hρ 35).trans (slotJ [4, 5] (by rw [hsz]; decide) (by kernel_rfl))).trans (hF 4 (by decide))
      have e36 : ρ (.tmp 36) = .int .i64 k := ((hρ 36).trans (slotJ [4, 5] (by rw [hsz]; decide) (by kernel_rfl))).trans (hF 5 (by decide))
      have p0 : (0 : Int) ≤ (k : Int) := by omega
      have p1 : (k : Int) < (NW : Int) := by omega
      clear hρ hF hcst hfun sl0 sl4 sl5 fin
      exact opv_val (by go_simp <;> rfl) ⟨gw_self _, rfl⟩
    · refine owes_v (Go.Op.fieldAddr 72 (Go.Operand.tmp 37) 0) 0 [6] (by kernel_rfl) (by kernel_rfl) (by kernel_rfl) rfl fun vals w1 ρ hG hF hρ hcst hfun => ?_
      have e37 : ρ (.tmp 37) = .pointer (some (ad2.add (k * 2))) := ((hρ 37).trans (slotJ [6] (by rw [hsz]; decide) (by kernel_rfl))).trans (hF 6 (by decide))
      clear hρ hF hcst hfun sl0 sl4 sl5 fin
      exact opv_val (by go_simp <;> rfl) ⟨gw_self _, rfl⟩
    · refine owes_v (Go.Op.load 3 (Go.Operand.tmp 38)) 3 [7] (by kernel_rfl) (by kernel_rfl) (by kernel_rfl) rfl fun vals w1 ρ hG hF hρ hcst hfun => ?_
      have e38 : ρ (.tmp 38) = .pointer (some (ad2.add (k * 2))) := ((hρ 38).trans (slotJ [7] (by rw [hsz]; decide) (by kernel_rfl))).trans (hF 7 (by decide))
      have k0 : w1.cell? (ad2.add (k * 2)) = some (.int .i64 ys) := (hG.cell (by rw [add_block]; exact HL.out.2)).trans E0.out
      clear hρ hF hcst hfun sl0 sl4 sl5 fin
      exact opv_val (by go_simp <;> rfl) ⟨gw_self _, rfl⟩
    · exact owes_mv 0 (by kernel_rfl) (by kernel_rfl) (by kernel_rfl) sl0 (fun _ => rfl)
    · refine owes_v (Go.Op.nilCheck (Go.Operand.tmp 40)) 0 [9] (by kernel_rfl) (by kernel_rfl) (by kernel_rfl) rfl fun vals w1 ρ hG hF hρ hcst hfun => ?_
      have e40 : ρ (.tmp 40) = .pointer (some ⟨g, 0, none⟩) := ((hρ 40).trans (slotJ [9] (by rw [hsz]; decide) (by kernel_rfl))).trans (hF 9 (by decide))
      clear hρ hF hcst hfun sl0 sl4 sl5 fin
      exact opv_val (by go_simp <;> rfl) ⟨gw_self _, rfl⟩
    · refine owes_v (Go.Op.fieldAddr 33 (Go.Operand.tmp 41) 2) 0 [10] (by kernel_rfl) (by kernel_rfl) (by kernel_rfl) rfl fun vals w1 ρ hG hF hρ hcst hfun => ?_
      have e41 : ρ (.tmp 41) = .pointer (some ⟨g, 0, none⟩) := ((hρ 41).trans (slotJ [10] (by rw [hsz]; decide) (by kernel_rfl))).trans (hF 10 (by decide))
      clear hρ hF hcst hfun sl0 sl4 sl5 fin
      exact opv_val (by go_simp <;> rfl) ⟨gw_self _, rfl⟩
    · refine owes_v (Go.Op.load 30 (Go.Operand.tmp 42)) 30 [11] (by kernel_rfl) (by kernel_rfl) (by kernel_rfl) rfl fun vals w1 ρ hG hF hρ hcst hfun => ?_
      have e42 : ρ (.tmp 42) = .pointer (some ⟨g, 2, none⟩) := ((hρ 42).trans (slotJ [11] (by rw [hsz]; decide) (by kernel_rfl))).trans (hF 11 (by decide))
      have k0 : w1.cell? ⟨g, 2, none⟩ = some (.slice (some ad2) NW wc) := (hG.cell HL.out.1).trans H2.out
      clear hρ hF hcst hfun sl0 sl4 sl5 fin
      exact opv_val (by go_simp <;> rfl) ⟨gw_self _, rfl⟩
    · exact owes_mv 5 (by kernel_rfl) (by kernel_rfl) (by kernel_rfl) sl5 (fun _ => rfl)
    · refine owes_v (Go.Op.indexAddr 30 (Go.Operand.tmp 43) (Go.Operand.tmp 44)) 0 [12, 13] (by kernel_rfl) (by kernel_rfl) (by kernel_rfl) rfl fun vals w1 ρ hG hF hρ hcst hfun => ?_
      have e43 : ρ (.tmp 43) = .slice (some ad2) NW wc := ((hρ 43).trans (slotJ [12, 13] (by rw [hsz]; decide) (by kernel_rfl))).trans (hF 12 (by decide))
      have e44 : ρ (.tmp 44) = .int .i64 k := ((hρ 44).trans (slotJ [12, 13] (by rw [hsz]; decide) (by kernel_rfl))).trans (hF 13 (by decide))
      have p0 : (0 : Int) ≤ (k : Int) := by omega
      have p1 : (k : Int) < (NW : Int) := by omega
      clear hρ hF hcst hfun sl0 sl4 sl5 fin
      exact opv_val (by go_simp <;> rfl) ⟨gw_self _, rfl⟩
    · refine owes_v (Go.Op.fieldAddr 72 (Go.Operand.tmp 45) 1) 0 [14] (by kernel_rfl) (by kernel_rfl) (by kernel_rfl) rfl fun vals w1 ρ hG hF hρ hcst hfun => ?_
      have e45 : ρ (.tmp 45) = .pointer (some (ad2.add (k * 2))) := ((hρ 45).trans (slotJ [14] (by rw [hsz]; decide) (by kernel_rfl))).trans (hF 14 (by decide))
      clear hρ hF hcst hfun sl0 sl4 sl5 fin
      exact opv_val (by go_simp <;> rfl) ⟨gw_self _, rfl⟩
    · refine owes_v (Go.Op.load 9 (Go.Operand.tmp 46)) 9 [15] (by kernel_rfl) (by kernel_rfl) (by kernel_rfl) rfl fun vals w1 ρ hG hF hρ hcst hfun => ?_
      have e46 : ρ (.tmp 46) = .pointer (some ⟨(ad2.add (k * 2)).block, (ad2.add (k * 2)).off + 1, none⟩) := ((hρ 46).trans (slotJ [15] (by rw [hsz]; decide) (by kernel_rfl))).trans (hF 15 (by decide))
      have k0 : w1.cell? ⟨(ad2.add (k * 2)).block, (ad2.add (k * 2)).off + 1, none⟩ = some (.string (strB yb)) := (hG.cell (p := ⟨(ad2.add (k * 2)).block, (ad2.add (k * 2)).off + 1, none⟩) (by show (ad2.add (k * 2)).block < _; rw [add_block]; exact HL.out.2)).trans E1.out
      clear hρ hF hcst hfun sl0 sl4 sl5 fin
      exact opv_val (by go_simp <;> rfl) ⟨gw_self _, rfl⟩
    · refine owes_v (Go.Op.indexAddr 29 (Go.Operand.tmp 31) (Go.Operand.tmp 39)) 0 [0, 8] (by kernel_rfl) (by kernel_rfl) (by kernel_rfl) rfl fun vals w1 ρ hG hF hρ hcst hfun => ?_
      have e31 : ρ (.tmp 31) = .slice (some ⟨q, 0, none⟩) n c := ((hρ 31).trans (slotJ [0, 8] (by rw [hsz]; decide) (by kernel_rfl))).trans (hF 0 (by decide))
      have e39 : ρ (.tmp 39) = .int .i64 ys := ((hρ 39).trans (slotJ [0, 8] (by rw [hsz]; decide) (by kernel_rfl))).trans (hF 8 (by decide))
      have p0 : (0 : Int) ≤ (ys : Int) := by omega
      have p1 : (ys : Int) < (n : Int) := by omega
      clear hρ hF hcst hfun sl0 sl4 sl5 fin
      exact opv_val (by go_simp <;> rfl) ⟨gw_self _, rfl⟩
  · intro vals w1 hG hF
    exact last_list (by kernel_rfl) (by kernel_rfl) (by kernel_rfl) (fin vals w1 hG (hF 16 (by decide +kernel)) (hF 17 (by decide +kernel)))
end Go.Proofs.Ytfcbmdmkdjaoaaa
