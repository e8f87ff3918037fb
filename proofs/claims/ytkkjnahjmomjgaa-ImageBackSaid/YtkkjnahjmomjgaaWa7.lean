/- Texts joined: ApZ EnC EnD EnE EnG EnF ImD DcF. -/
import Derived.Test.YtkkjnahjmomjgaaWa6
import Derived.Test.YtkkjnahjmomjgaaBel
import Derived.Test.YtkkjnahjmomjgaaBitsB
import Derived.Lib.AppendZeros
import Derived.Lib.AppendZerosOnto
import Derived.Lib.ConvBytes
import Derived.Laws.IdiomStrings
import Derived.Test.YtkkjnahjmomjgaaMmC
import Derived.Test.YtkkjnahjmomjgaaBitsA
/- 'append(row, make([]T, k)...)' on a row of the call's own: k zeros behind it. Conditions: lengths. -/
namespace Go.Proofs.Ytkkjnahjmomjgaa
set_option linter.unusedVariables false
set_option linter.unusedSimpArgs false
open Go.RowKit
theorem zeroCells_list (z : Value) (k : Nat) : (Builtin.zeroCells #[z] k).toList = List.replicate k z := by
  apply List.ext_getElem
  · simp [Builtin.zeroCells]
  · intro i h1 h2
    simp [Builtin.zeroCells, Nat.mod_one]
theorem zeroCells_arr (z : Value) (k : Nat) : Builtin.zeroCells #[z] k = (List.replicate k z).toArray := by
  rw [← zeroCells_list z k]
theorem infoB : (Try.prog.info? 5).map (fun i => (i.zero, i.size, i.bytes)) = some (some (.int .u8 0), 1, 1) := by kernel_rfl
end Go.Proofs.Ytkkjnahjmomjgaa
/- 'append([]byte(s), make([]byte, k)...)': on a row that a conversion has made. Conditions: lengths. -/
namespace Go.Proofs.Ytkkjnahjmomjgaa
set_option linter.unusedVariables false
set_option linter.unusedSimpArgs false
open Go.RowKit
set_option maxHeartbeats 1000000
/-- Stores into a row that bears a conversion's mark behind its last cell. -/
theorem run_storeM (P : Program) (g : Nat) (t : TypeId) (N : Nat) : ∀ (vs : List Value) (i : Nat) (o : Nat) (cur : Array Value) (w : World), w.heap[g]? = some (.cells cur t (N, N + 1)) → cur.size = N → o + i + vs.length ≤ N → (∀ v ∈ vs, v.oneCell' = true) →
    (storeCells ⟨g, o, none⟩ vs i).run P w = .ok () (w.setRow g (cur.toList.take (o + i) ++ vs ++ cur.toList.drop (o + i + vs.length)).toArray)
  | [], i, o, cur, w, hg, hN, _, _ => by
    simp only [storeCells, List.append_nil, List.length_nil, Nat.add_zero, List.take_append_drop, Array.toArray_toList]
    rw [setRow_self w g cur t (N, N + 1) hg]
    rfl
  | v :: rest, i, o, cur, w, hg, hN, hl, h1 => by
    have hi : o + i < cur.size := by simp at hl; omega
    have hadd : (⟨g, o, none⟩ : Addr).add i = ⟨g, o + i, none⟩ := by unfold Addr.add; split <;> simp_all
    have hcell : w.cell? ⟨g, o + i, none⟩ = some cur[o + i] := by simp [World.cell?, hg, hi]
    have hfro : w.frozen? ⟨g, o + i, none⟩ = false := by simp [World.frozen?, hg]; omega
    have hst : (store ((⟨g, o, none⟩ : Addr).add i) v).run P w = .ok () (w.setRow g (cur.setIfInBounds (o + i) v)) := by
      rw [hadd, run_store P w _ v _ (h1 v (by simp)), hcell]
      simp [hfro, setCell_eq_setRow w g (o + i) cur t (N, N + 1) v hg]
    have ih := run_storeM P g t N rest (i + 1) o (cur.setIfInBounds (o + i) v) (w.setRow g (cur.setIfInBounds (o + i) v)) (setRow_heap w g cur _ t _ hg) (by simpa using hN) (by simp at hl ⊢; omega) (fun x hx => h1 x (by simp [hx]))
    simp only [storeCells, Sem.run_bind, hst, Result.andThen_ok, ih, setRow_setRow]
    congr 3
    have e := list_seg_step cur.toList (o + i) v rest (by simp at hl ⊢; omega)
    simpa [Array.toList_setIfInBounds, Nat.add_assoc] using e
/-- A row with zeros behind it. -/
def ZeroP (w : World) (base : Nat) (n : Nat) (cs : List Value) (v : Value) (w' : World) : Prop :=
  ∃ q c, v = .slice (some ⟨q, 0, none⟩) n c ∧ base ≤ q ∧ q < w'.heap.size ∧ (∀ (j : Nat) (u : Value), cs[j]? = some u → w'.cell? ⟨q, j, none⟩ = some u) ∧ Below base w w'
theorem run_appM {P : Program} (w : World) (base : Nat) (t tn ty e : TypeId) (i : TypeInfo) (z : Value) (kq kn : IntKind) (ht : P.underlying t = some (.slice e)) (htn : P.underlying tn = some (.int kn)) (hi : P.info? e = some i) (hz : i.zero = some z) (hs1 : i.size = 1) (hb1 : i.bytes = 1) (hzc : z.cells = #[z]) (ho : z.oneCell' = true)
    (g n cap : Nat) (cur : Array Value) (hg : w.heap[g]? = some (.cells cur e (cur.size, cur.size + 1))) (hnc : n ≤ cap) (hcs : cap = cur.size) (xs : List Value) (hxl : xs.length = n) (htake : cur.toList.take n = xs) (k : Nat) (hk : 0 < k) (hb : n + k ≤ 1000000000) (hbase : base ≤ g) :
    ∃ v' w', (Builtin.append_ #[t, tn] ty #[.slice (some ⟨g, 0, none⟩) n cap, .int kq k]).run P w = .ok v' w' ∧ ZeroP w base (n + k) (xs ++ List.replicate k z) v' w' := by
  have hlt : g < w.heap.size := (Array.getElem?_eq_some_iff.1 hg).1
  have holds : ∀ j u, xs[j]? = some u → w.cell? ((⟨g, 0, none⟩ : Addr).add j) = some u := fun j u hu => by
    have hj : j < n := by have := (List.getElem?_eq_some_iff.1 hu).1; omega
    have ea : (⟨g, 0, none⟩ : Addr).add j = ⟨g, j, none⟩ := by unfold Addr.add; split <;> simp_all
    rw [← htake, List.getElem?_take_of_lt hj] at hu
    rw [ea]
    simp [World.cell?, hg]
    simpa using hu
  have hk0 : k ≠ 0 := by omega
  have hw : IntKind.i64.wrap (k : Int) = k := by rw [IntKind.wrap_i64]; omega
  have hneg : ¬ ((k : Int) < 0) := by omega
  by_cases hroom : n + k ≤ cap
  · have hfit : n * 1 + 0 + (List.replicate k z).length ≤ cur.size := by rw [List.length_replicate]; omega
    have hst := run_storeM P g e cur.size (List.replicate k z) 0 (n * 1) cur w hg rfl hfit (fun u hu => by rw [(List.mem_replicate.1 hu).2]; exact ho)
    simp only [Nat.add_zero, Nat.mul_one] at hst
    have h63' : ¬ (9223372036854775807 < ((n : Int) + (k : Int))) := by omega
    have h48i : ¬ (281474976710656 < (k : Int)) := by omega
    refine ⟨.slice (some ⟨g, 0, none⟩) (n + k) cap, w.setRow g (cur.toList.take n ++ List.replicate k z ++ cur.toList.drop (n + (List.replicate k z).length)).toArray, ?_, g, cap, rfl, hbase, by simpa using hlt, ?_, below_of_grown (row := some g) ⟨rfl, rfl, rfl, by simp, fun j _ hj => setRow_other w g j _ (fun e => hj (by simp [e]))⟩ (by omega) (fun j e => by injection e with e; omega)⟩
    · simp [Builtin.append_, run_underlying ht, run_underlying htn, sizeOf, typeInfo, zeroValue, hi, hz, hs1, hb1, asInt, asIntOf, hw, hk0, hneg, hroom, h63', h48i, Question.forced, hzc, zeroCells_list, zeroCells_arr, Addr.add_lit, hst]
    · intro j u hu
      rw [cell_setRow_same w g j _ _ e _ hg, htake]
      have hj := (List.getElem?_eq_some_iff.1 hu).1
      rw [List.getElem?_toArray, List.getElem?_append_left hj]
      exact hu
  · have hf : (Builtin.firstCells i.size n (.slice (some ⟨g, 0, none⟩) n cap)).run P w.drew = .ok xs.toArray w.drew :=
      run_firstCells_some (P := P) w.drew i.size n ⟨g, 0, none⟩ n cap xs (by rw [hs1]; omega) holds
    have hr := Lib.run_append_grow_zeros (P := P) w t tn ty e i z kq kn ht htn hi hz (some ⟨g, 0, none⟩) n cap xs hf k hk (by omega) (by omega) (by omega) (by rw [hb1]; omega) (growslice_fits (by omega) (by rw [hb1]; omega))
    rw [hzc, zeroCells_arr] at hr
    refine ⟨_, _, hr, w.heap.size, _, rfl, by omega, ?_, ?_, ?_⟩
    · simp
    · intro j u hu
      have hj := (List.getElem?_eq_some_iff.1 hu).1
      have hh := heap_alloc_new w.drew (.cells (xs.toArray ++ (List.replicate k z).toArray ++ Builtin.zeroCells #[z] (grownCap w (n + k) cap e - (n + k))) e)
      rw [cell_of_row _ w.heap.size j _ e _ hh]
      rw [← Array.getElem?_toList, Array.toList_append, Array.toList_append]
      rw [List.getElem?_append_left (by simpa using hj)]
      simpa using hu
    · exact ((Gw.drew w).trans ((Gw.alloc w.drew _).mono (Gw.drew w).size)).mono (by omega)
end Go.Proofs.Ytkkjnahjmomjgaa
/- loamref17.Encode: the region that makes a name's bytes. Conditions: the name's length. -/
namespace Go.Proofs.Ytkkjnahjmomjgaa
set_option linter.unusedVariables false
set_option linter.unusedSimpArgs false
open Go.RowKit
set_option maxHeartbeats 4000000
set_option maxRecDepth 100000
/-- A row that a conversion of a string has made. -/
def CvV (s : ByteArray) (B : Nat) (v : Value) (w : World) : Prop :=
  ∃ g cur, v = .slice (some ⟨g, 0, none⟩) s.size cur.size ∧ B ≤ g ∧ w.heap[g]? = some (.cells cur 5 (cur.size, cur.size + 1)) ∧ s.size ≤ cur.size ∧ cur.toList.take s.size = s.data.toList.map (fun b => Value.int .u8 b.toNat)
theorem CvV.mono {s : ByteArray} {B : Nat} {v : Value} {a b : World} (h : CvV s B v a) (hg : Below a.heap.size a b) : CvV s B v b := by
  obtain ⟨g, cur, e, hB, hh, h2⟩ := h
  exact ⟨g, cur, e, hB, (hg.block g (Array.getElem?_eq_some_iff.1 hh).1).trans hh, h2⟩
theorem cv_new (s : ByteArray) (w : World) (B : Nat) (hB : B ≤ w.heap.size) (c : Nat) (hc : s.size ≤ c) :
    CvV s B (.slice (some ⟨w.heap.size, 0, none⟩) s.size c) (w.drew.alloc (.cells (bytesRow s c) 5 ((bytesRow s c).size, (bytesRow s c).size + 1))) := by
  have hsz : (bytesRow s c).size = c := by
    have e : s.data.size = s.size := rfl
    unfold bytesRow
    simp [e]
    omega
  refine ⟨w.heap.size, bytesRow s c, by rw [hsz], hB, heap_alloc_new w.drew _, by rw [hsz]; exact hc, ?_⟩
  have e : s.data.toList.length = s.size := rfl
  unfold bytesRow
  rw [Array.toList_append, List.take_append_of_le_length (by simp), Array.toList_map, ← List.map_take, List.take_of_length_le (by rw [e]; exact Nat.le_refl _)]
theorem grownCap_ge0 (s : ByteArray) (w : World) : s.size ≤ grownCap w s.size 0 5 := grownCap_ge w s.size 0 5
theorem en17 (Q : Exit → Act → World → Prop) (a0 : Act) (w : World) (G k M c2 : Nat) (ad : Addr) (s : ByteArray) (hGl : G < w.heap.size) (g1 : w.cell? ⟨G, 1, none⟩ = some (.slice (some ad) M c2)) (hl : (ad.add (k * 2)).block < w.heap.size) (cs : w.cell? (ad.add (k * 2)) = some (.string s)) (hs : s.size ≤ 32) (p0 : (0 : Int) ≤ (k : Int)) (p1 : (k : Int) < (M : Int)) (p2 : (M : Int) ≤ 100000) (hsz : a0.tmps.size = 145) (sl1 : a0.tmps.getD 1 undef = .pointer (some ⟨G, 0, none⟩)) (sl9 : a0.tmps.getD 9 undef = .int .i64 (k : Int))
    (fin : ∀ (vals : Nat → Value) (w1 : World), Below w.heap.size w w1 → (CvV s w.heap.size) (vals 6) w1 → (IsV (.int .i64 (32 - (s.size : Int)))) (vals 14) w1 → wpList Try.prog #[{ dst := some 79, op := Go.Op.call { callee := Go.Callee.builtin Go.Builtin.append, args := #[Go.Operand.tmp 70, Go.Operand.tmp 78], argTypes := #[52, 3] }, type := 52, pos := "", after := #[], guard := none }] (SpineQ (putD vals [64, 65, 66, 67, 68, 69, 70, 71, 72, 73, 74, 75, 76, 77, 78] 0 a0).defers (fun _ => True) (fun a w => wpList Try.prog #[{ dst := some 10, op := Go.Op.assign (Go.Operand.tmp 79), type := 52, pos := "", after := #[], guard := none }] Q [{ dst := some 10, op := Go.Op.assign (Go.Operand.tmp 79), type := 52, pos := "", after := #[], guard := none }] a w)) [{ dst := some 79, op := Go.Op.call { callee := Go.Callee.builtin Go.Builtin.append, args := #[Go.Operand.tmp 70, Go.Operand.tmp 78], argTypes := #[52, 3] }, type := 52, pos := "", after := #[], guard := none }] (putD vals [64, 65, 66, 67, 68, 69, 70, 71, 72, 73, 74, 75, 76, 77, 78] 0 a0) w1) :
    (Code.region 17 (regIn Try.f11 17) true).wp Try.prog Q a0 w := by
  refine region_by_tail2 (m := 15) (G := fun w w1 => Below w.heap.size w w1) [IsV (.pointer (some ⟨G, 1, none⟩)),
    IsV (.slice (some ad) M c2),
    IsV (.int .i64 (k : Int)),
    IsV (.pointer (some (ad.add (k * 2)))),
    IsV (.pointer (some (ad.add (k * 2)))),
    IsV (.string s),
    CvV s w.heap.size,
    IsV (.pointer (some ⟨G, 1, none⟩)),
    IsV (.slice (some ad) M c2),
    IsV (.int .i64 (k : Int)),
    IsV (.pointer (some (ad.add (k * 2)))),
    IsV (.pointer (some (ad.add (k * 2)))),
    IsV (.string s),
    IsV (.int .i64 (s.size : Int)),
    IsV (.int .i64 (32 - (s.size : Int)))]
    [64, 65, 66, 67, 68, 69, 70, 71, 72, 73, 74, 75, 76, 77, 78] (by kernel_rfl) (Gw.drew _) Gw.trans (by rw [hsz]; kernel_rfl) (by kernel_rfl) ?_ ?_ ?_
  · intro f hf
    simp only [List.mem_cons, List.not_mem_nil, or_false] at hf
    rcases hf with rfl | rfl | rfl | rfl | rfl | rfl | rfl | rfl | rfl | rfl | rfl | rfl | rfl | rfl | rfl <;> intro v a b h g <;> first | exact IsV.mono h | exact CvV.mono h g
  · refine ⟨?_, ?_, ?_, ?_, ?_, ?_, ?_, ?_, ?_, ?_, ?_, ?_, ?_, ?_, ?_, trivial⟩
    · refine owes_v (Go.Op.fieldAddr 31 (Go.Operand.tmp 1) 1) 0 [] (by kernel_rfl) (by kernel_rfl) (by kernel_rfl) rfl fun vals w1 ρ hG hF hρ hcst hfun => ?_
      have e1 : ρ (.tmp 1) = .pointer (some ⟨G, 0, none⟩) := ((hρ 1).trans (slotO [] (by kernel_rfl))).trans sl1
      clear hρ hF hcst hfun sl1 sl9 fin
      exact opv_val (by go_simp <;> rfl) ⟨gw_self _, rfl⟩
    · refine owes_v (Go.Op.load 29 (Go.Operand.tmp 64)) 29 [0] (by kernel_rfl) (by kernel_rfl) (by kernel_rfl) rfl fun vals w1 ρ hG hF hρ hcst hfun => ?_
      have e64 : ρ (.tmp 64) = .pointer (some ⟨G, 1, none⟩) := ((hρ 64).trans (slotJ [0] (by rw [hsz]; decide) (by kernel_rfl))).trans (hF 0 (by decide))
      have kk := (hG.cell (p := ⟨G, 1, none⟩) hGl).trans g1
      clear hρ hF hcst hfun sl1 sl9 fin
      exact opv_val (by go_simp <;> rfl) ⟨gw_self _, rfl⟩
    · exact owes_mv 9 (by kernel_rfl) (by kernel_rfl) (by kernel_rfl) sl9 (fun _ => rfl)
    · refine owes_v (Go.Op.indexAddr 29 (Go.Operand.tmp 65) (Go.Operand.tmp 66)) 0 [1, 2] (by kernel_rfl) (by kernel_rfl) (by kernel_rfl) rfl fun vals w1 ρ hG hF hρ hcst hfun => ?_
      have e65 : ρ (.tmp 65) = .slice (some ad) M c2 := ((hρ 65).trans (slotJ [1, 2] (by rw [hsz]; decide) (by kernel_rfl))).trans (hF 1 (by decide))
      have e66 : ρ (.tmp 66) = .int .i64 (k : Int) := ((hρ 66).trans (slotJ [1, 2] (by rw [hsz]; decide) (by kernel_rfl))).trans (hF 2 (by decide))
      clear hρ hF hcst hfun sl1 sl9 fin
      exact opv_val (by go_simp <;> rfl) ⟨gw_self _, rfl⟩
    · refine owes_v (Go.Op.fieldAddr 59 (Go.Operand.tmp 67) 0) 0 [3] (by kernel_rfl) (by kernel_rfl) (by kernel_rfl) rfl fun vals w1 ρ hG hF hρ hcst hfun => ?_
      have e67 : ρ (.tmp 67) = .pointer (some (ad.add (k * 2))) := ((hρ 67).trans (slotJ [3] (by rw [hsz]; decide) (by kernel_rfl))).trans (hF 3 (by decide))
      clear hρ hF hcst hfun sl1 sl9 fin
      exact opv_val (by go_simp <;> rfl) ⟨gw_self _, rfl⟩
    · refine owes_v (Go.Op.load 9 (Go.Operand.tmp 68)) 9 [4] (by kernel_rfl) (by kernel_rfl) (by kernel_rfl) rfl fun vals w1 ρ hG hF hρ hcst hfun => ?_
      have e68 : ρ (.tmp 68) = .pointer (some (ad.add (k * 2))) := ((hρ 68).trans (slotJ [4] (by rw [hsz]; decide) (by kernel_rfl))).trans (hF 4 (by decide))
      have kk := (hG.cell (p := ad.add (k * 2)) hl).trans cs
      clear hρ hF hcst hfun sl1 sl9 fin
      exact opv_val (by go_simp <;> rfl) ⟨gw_self _, rfl⟩
    · refine owes_v (Go.Op.convert 9 52 (Go.Operand.tmp 69)) 52 [5] (by kernel_rfl) (by kernel_rfl) (by kernel_rfl) rfl fun vals w1 ρ hG hF hρ hcst hfun => ?_
      have e69 : ρ (.tmp 69) = .string s := ((hρ 69).trans (slotJ [5] (by rw [hsz]; decide) (by kernel_rfl))).trans (hF 5 (by decide))
      clear hρ hF hcst hfun sl1 sl9 fin
      exact opv_val (by go_simp; simp only [run_bytes_of_string _ _ _ _ s Try.underlying9 Try.underlying52 Try.underlying5]; rfl) ⟨(Gw.drew _).trans ((Gw.alloc _ _).mono (Gw.drew _).size), cv_new s _ _ hG.size _ (grownCap_ge0 s _)⟩
    · refine owes_v (Go.Op.fieldAddr 31 (Go.Operand.tmp 1) 1) 0 [] (by kernel_rfl) (by kernel_rfl) (by kernel_rfl) rfl fun vals w1 ρ hG hF hρ hcst hfun => ?_
      have e1 : ρ (.tmp 1) = .pointer (some ⟨G, 0, none⟩) := ((hρ 1).trans (slotO [] (by kernel_rfl))).trans sl1
      clear hρ hF hcst hfun sl1 sl9 fin
      exact opv_val (by go_simp <;> rfl) ⟨gw_self _, rfl⟩
    · refine owes_v (Go.Op.load 29 (Go.Operand.tmp 71)) 29 [7] (by kernel_rfl) (by kernel_rfl) (by kernel_rfl) rfl fun vals w1 ρ hG hF hρ hcst hfun => ?_
      have e71 : ρ (.tmp 71) = .pointer (some ⟨G, 1, none⟩) := ((hρ 71).trans (slotJ [7] (by rw [hsz]; decide) (by kernel_rfl))).trans (hF 7 (by decide))
      have kk := (hG.cell (p := ⟨G, 1, none⟩) hGl).trans g1
      clear hρ hF hcst hfun sl1 sl9 fin
      exact opv_val (by go_simp <;> rfl) ⟨gw_self _, rfl⟩
    · exact owes_mv 9 (by kernel_rfl) (by kernel_rfl) (by kernel_rfl) sl9 (fun _ => rfl)
    · refine owes_v (Go.Op.indexAddr 29 (Go.Operand.tmp 72) (Go.Operand.tmp 73)) 0 [8, 9] (by kernel_rfl) (by kernel_rfl) (by kernel_rfl) rfl fun vals w1 ρ hG hF hρ hcst hfun => ?_
      have e72 : ρ (.tmp 72) = .slice (some ad) M c2 := ((hρ 72).trans (slotJ [8, 9] (by rw [hsz]; decide) (by kernel_rfl))).trans (hF 8 (by decide))
      have e73 : ρ (.tmp 73) = .int .i64 (k : Int) := ((hρ 73).trans (slotJ [8, 9] (by rw [hsz]; decide) (by kernel_rfl))).trans (hF 9 (by decide))
      clear hρ hF hcst hfun sl1 sl9 fin
      exact opv_val (by go_simp <;> rfl) ⟨gw_self _, rfl⟩
    · refine owes_v (Go.Op.fieldAddr 59 (Go.Operand.tmp 74) 0) 0 [10] (by kernel_rfl) (by kernel_rfl) (by kernel_rfl) rfl fun vals w1 ρ hG hF hρ hcst hfun => ?_
      have e74 : ρ (.tmp 74) = .pointer (some (ad.add (k * 2))) := ((hρ 74).trans (slotJ [10] (by rw [hsz]; decide) (by kernel_rfl))).trans (hF 10 (by decide))
      clear hρ hF hcst hfun sl1 sl9 fin
      exact opv_val (by go_simp <;> rfl) ⟨gw_self _, rfl⟩
    · refine owes_v (Go.Op.load 9 (Go.Operand.tmp 75)) 9 [11] (by kernel_rfl) (by kernel_rfl) (by kernel_rfl) rfl fun vals w1 ρ hG hF hρ hcst hfun => ?_
      have e75 : ρ (.tmp 75) = .pointer (some (ad.add (k * 2))) := ((hρ 75).trans (slotJ [11] (by rw [hsz]; decide) (by kernel_rfl))).trans (hF 11 (by decide))
      have kk := (hG.cell (p := ad.add (k * 2)) hl).trans cs
      clear hρ hF hcst hfun sl1 sl9 fin
      exact opv_val (by go_simp <;> rfl) ⟨gw_self _, rfl⟩
    · refine owes_v (Go.Op.call { callee := Go.Callee.builtin Go.Builtin.len, args := #[Go.Operand.tmp 76], argTypes := #[9] }) 3 [12] (by kernel_rfl) (by kernel_rfl) (by kernel_rfl) rfl fun vals w1 ρ hG hF hρ hcst hfun => ?_
      have e76 : ρ (.tmp 76) = .string s := ((hρ 76).trans (slotJ [12] (by rw [hsz]; decide) (by kernel_rfl))).trans (hF 12 (by decide))
      clear hρ hF hcst hfun sl1 sl9 fin
      exact opv_val (by go_simp <;> rfl) ⟨gw_self _, rfl⟩
    · refine owes_v (Go.Op.binOp Go.BinOp.sub 3 (Go.Operand.const (Go.Value.int Go.IntKind.i64 32)) (Go.Operand.tmp 77) 3) 3 [13] (by kernel_rfl) (by kernel_rfl) (by kernel_rfl) rfl fun vals w1 ρ hG hF hρ hcst hfun => ?_
      have e77 : ρ (.tmp 77) = .int .i64 (s.size : Int) := ((hρ 77).trans (slotJ [13] (by rw [hsz]; decide) (by kernel_rfl))).trans (hF 13 (by decide))
      have kw0 : IntKind.i64.wrap ((32 - (s.size : Int))) = (32 - (s.size : Int)) := wrapIn (by omega) (by omega)
      clear hρ hF hfun sl1 sl9 fin
      exact opv_val (by go_simp <;> rfl) ⟨gw_self _, rfl⟩
  · intro vals w1 hG hF
    exact next_spine2 (by kernel_rfl) (by kernel_rfl) (by kernel_rfl) (by kernel_rfl) (by kernel_rfl) (by kernel_rfl) (fin vals w1 hG (hF 6 (by decide +kernel)) (hF 14 (by decide +kernel)))
end Go.Proofs.Ytkkjnahjmomjgaa
/- loamref17.Need, Encode. Conditions: a graph of few nodes. -/
namespace Go.Proofs.Ytkkjnahjmomjgaa
set_option linter.unusedVariables false
set_option linter.unusedSimpArgs false
open Go.RowKit Go.Maps
set_option maxHeartbeats 4000000
set_option maxRecDepth 100000
theorem few_words {g : Gv} (h : FewP g) : 0 ≤ wordsL g.n ∧ wordsL g.n ≤ 100000 := by
  have h1 : ∀ l : List Nv, 0 ≤ wordsL l ∧ wordsL l ≤ 300 * (l.length : Int) := by
    intro l
    induction l with
    | nil => exact ⟨Int.le_refl _, Int.le_refl _⟩
    | cons x r ih =>
      have hx := szN_le x
      show 0 ≤ szN x + wordsL r ∧ szN x + wordsL r ≤ _
      rw [List.length_cons]
      omega
  have h2 := h1 g.n
  have h3 := h.1
  omega
theorem nd1 (Q : Exit → Act → World → Prop) (a0 : Act) (w : World) (G N M c c2 : Nat) (A A2 : Option Addr) (z : Int) (hGl : G < w.heap.size) (g0 : w.cell? ⟨G, 0, none⟩ = some (.slice A N c)) (g1 : w.cell? ⟨G, 1, none⟩ = some (.slice A2 M c2)) (hM : (M : Int) ≤ 100000) (z0 : 0 ≤ z) (z1 : z ≤ 100000) (hw : Hid (∀ W, Below w.heap.size w W → Calls Try.prog 37 #[.agg #[.slice A N c, .slice A2 M c2]] W (RetP (.int .i64 z) W))) (hsz : a0.tmps.size = 11) (sl1 : a0.tmps.getD 1 undef = .pointer (some ⟨G, 0, none⟩))
    (fin : ∀ (vals : Nat → Value) (w1 : World), Below w.heap.size w w1 → (IsV (.int .i64 (2 + 5 * (M : Int) + z))) (vals 8) w1 → Q .normal (putD vals [3, 4, 5, 6, 7, 8, 9, 10, 2] 0 a0) w1) :
    (Code.region 1 (regIn Try.f15 1) true).wp Try.prog Q a0 w := by
  refine region_by (G := fun w w1 => Below w.heap.size w w1) [IsV (.pointer (some ⟨G, 1, none⟩)),
    IsV (.slice A2 M c2),
    IsV (.int .i64 (M : Int)),
    IsV (.int .i64 (5 * (M : Int))),
    IsV (.int .i64 (2 + 5 * (M : Int))),
    IsV (.agg #[.slice A N c, .slice A2 M c2]),
    IsV (.int .i64 z),
    IsV (.int .i64 (2 + 5 * (M : Int) + z)),
    IsV (.int .i64 (2 + 5 * (M : Int) + z))]
    [3, 4, 5, 6, 7, 8, 9, 10, 2] (by kernel_rfl) (Gw.drew _) Gw.trans (by rw [hsz]; kernel_rfl) (by kernel_rfl) ?_ ?_ ?_
  · intro f hf
    simp only [List.mem_cons, List.not_mem_nil, or_false] at hf
    rcases hf with rfl | rfl | rfl | rfl | rfl | rfl | rfl | rfl | rfl <;> intro v a b h g <;> first | exact IsV.mono h
  · refine ⟨?_, ?_, ?_, ?_, ?_, ?_, ?_, ?_, ?_, trivial⟩
    · refine owes_v (Go.Op.fieldAddr 31 (Go.Operand.tmp 1) 1) 0 [] (by kernel_rfl) (by kernel_rfl) (by kernel_rfl) rfl fun vals w1 ρ hG hF hρ hcst hfun => ?_
      have e1 : ρ (.tmp 1) = .pointer (some ⟨G, 0, none⟩) := ((hρ 1).trans (slotO [] (by kernel_rfl))).trans sl1
      clear hρ hF hcst hfun sl1 fin
      exact opv_val (by go_simp <;> rfl) ⟨gw_self _, rfl⟩
    · refine owes_v (Go.Op.load 29 (Go.Operand.tmp 3)) 29 [0] (by kernel_rfl) (by kernel_rfl) (by kernel_rfl) rfl fun vals w1 ρ hG hF hρ hcst hfun => ?_
      have e3 : ρ (.tmp 3) = .pointer (some ⟨G, 1, none⟩) := ((hρ 3).trans (slotJ [0] (by rw [hsz]; decide) (by kernel_rfl))).trans (hF 0 (by decide))
      have kk := (hG.cell (p := ⟨G, 1, none⟩) hGl).trans g1
      clear hρ hF hcst hfun sl1 fin
      exact opv_val (by go_simp <;> rfl) ⟨gw_self _, rfl⟩
    · refine owes_v (Go.Op.call { callee := Go.Callee.builtin Go.Builtin.len, args := #[Go.Operand.tmp 4], argTypes := #[29] }) 3 [1] (by kernel_rfl) (by kernel_rfl) (by kernel_rfl) rfl fun vals w1 ρ hG hF hρ hcst hfun => ?_
      have e4 : ρ (.tmp 4) = .slice A2 M c2 := ((hρ 4).trans (slotJ [1] (by rw [hsz]; decide) (by kernel_rfl))).trans (hF 1 (by decide))
      clear hρ hF hcst hfun sl1 fin
      exact opv_val (by go_simp <;> rfl) ⟨gw_self _, rfl⟩
    · refine owes_v (Go.Op.binOp Go.BinOp.mul 3 (Go.Operand.const (Go.Value.int Go.IntKind.i64 5)) (Go.Operand.tmp 5) 3) 3 [2] (by kernel_rfl) (by kernel_rfl) (by kernel_rfl) rfl fun vals w1 ρ hG hF hρ hcst hfun => ?_
      have e5 : ρ (.tmp 5) = .int .i64 (M : Int) := ((hρ 5).trans (slotJ [2] (by rw [hsz]; decide) (by kernel_rfl))).trans (hF 2 (by decide))
      have kw0 : IntKind.i64.wrap ((5 * (M : Int))) = (5 * (M : Int)) := wrapIn (by omega) (by omega)
      clear hρ hF hfun sl1 fin
      exact opv_val (by go_simp <;> rfl) ⟨gw_self _, rfl⟩
    · refine owes_v (Go.Op.binOp Go.BinOp.add 3 (Go.Operand.const (Go.Value.int Go.IntKind.i64 2)) (Go.Operand.tmp 6) 3) 3 [3] (by kernel_rfl) (by kernel_rfl) (by kernel_rfl) rfl fun vals w1 ρ hG hF hρ hcst hfun => ?_
      have e6 : ρ (.tmp 6) = .int .i64 (5 * (M : Int)) := ((hρ 6).trans (slotJ [3] (by rw [hsz]; decide) (by kernel_rfl))).trans (hF 3 (by decide))
      have kw0 : IntKind.i64.wrap ((2 + 5 * (M : Int))) = (2 + 5 * (M : Int)) := wrapIn (by omega) (by omega)
      clear hρ hF hfun sl1 fin
      exact opv_val (by go_simp <;> rfl) ⟨gw_self _, rfl⟩
    · refine owes_v (Go.Op.load 31 (Go.Operand.tmp 1)) 31 [] (by kernel_rfl) (by kernel_rfl) (by kernel_rfl) rfl fun vals w1 ρ hG hF hρ hcst hfun => ?_
      have e1 : ρ (.tmp 1) = .pointer (some ⟨G, 0, none⟩) := ((hρ 1).trans (slotO [] (by kernel_rfl))).trans sl1
      have k0 := (hG.cell (p := ⟨G, 0, none⟩) hGl).trans g0; have k1 := (hG.cell (p := ⟨G, 1, none⟩) hGl).trans g1
      clear hρ hF hcst hfun sl1 fin
      exact opv_val (by go_simp <;> rfl) ⟨gw_self _, rfl⟩
    · refine owes_v (Go.Op.call { callee := Go.Callee.value (Go.Operand.func 37), args := #[Go.Operand.tmp 8], argTypes := #[31] }) 3 [5] (by kernel_rfl) (by kernel_rfl) (by kernel_rfl) rfl fun vals w1 ρ hG hF hρ hcst hfun => ?_
      have e8 : ρ (.tmp 8) = .agg #[.slice A N c, .slice A2 M c2] := ((hρ 8).trans (slotJ [5] (by rw [hsz]; decide) (by kernel_rfl))).trans (hF 5 (by decide))
      clear hρ hF hcst sl1 fin
      exact opv_enter (by go_simp <;> rfl) (of_ret (hw.out w1 hG))
    · refine owes_v (Go.Op.binOp Go.BinOp.add 3 (Go.Operand.tmp 7) (Go.Operand.tmp 9) 3) 3 [4, 6] (by kernel_rfl) (by kernel_rfl) (by kernel_rfl) rfl fun vals w1 ρ hG hF hρ hcst hfun => ?_
      have e7 : ρ (.tmp 7) = .int .i64 (2 + 5 * (M : Int)) := ((hρ 7).trans (slotJ [4, 6] (by rw [hsz]; decide) (by kernel_rfl))).trans (hF 4 (by decide))
      have e9 : ρ (.tmp 9) = .int .i64 z := ((hρ 9).trans (slotJ [4, 6] (by rw [hsz]; decide) (by kernel_rfl))).trans (hF 6 (by decide))
      have kw0 : IntKind.i64.wrap ((2 + 5 * (M : Int) + z)) = (2 + 5 * (M : Int) + z) := wrapIn (by omega) (by omega)
      clear hρ hF hcst hfun sl1 fin
      exact opv_val (by go_simp <;> rfl) ⟨gw_self _, rfl⟩
    · exact owes_mvj 7 10 (by kernel_rfl) (by kernel_rfl) (by kernel_rfl) (by kernel_rfl) (by rw [hsz]; decide) (fun v w h => h)
  · intro vals w1 hG hF
    exact fin vals w1 hG (hF 8 (by decide +kernel))
theorem rneed_c (w : World) (g : Gv) (hg : g.At w w.heap.size) (hs : FewP g) : Calls Try.prog 15 #[g.v] w (RetP (.int .i64 (2 + 5 * (g.r.length : Int) + wordsL g.n)) w) := by
  have HW := Lib.hid (fun W (b : Below w.heap.size w W) => rwords_c W g (hg.up b) hs.small)
  obtain ⟨z0, z1⟩ := few_words hs
  obtain ⟨z, hz⟩ : ∃ z, z = wordsL g.n := ⟨_, rfl⟩
  rw [← hz] at HW z0 z1 ⊢
  have hM := hs.2.1
  obtain ⟨A, ca, A2, ca2, ns, rs⟩ := g
  obtain ⟨N, hN⟩ : ∃ N, N = ns.length := ⟨_, rfl⟩
  obtain ⟨M, hMM⟩ : ∃ M, M = rs.length := ⟨_, rfl⟩
  unfold Gv.v Gv.vn Gv.vr at HW ⊢
  simp only at HW hM ⊢
  rw [← hMM] at HW hM ⊢
  rw [← hN] at HW ⊢
  have hMi : (M : Int) ≤ 100000 := by omega
  clear hg hs hz hN hMM hM
  go_enter Try.func15, Try.ntmps15
  go_wp2_with fail
  obtain ⟨G, hG⟩ : ∃ G, G = w.heap.size := ⟨_, rfl⟩
  obtain ⟨w1, hw1⟩ : ∃ W, W = w.alloc (.cells #[.slice A N ca, .slice A2 M ca2] 31) := ⟨_, rfl⟩
  have hbk : Bk w1 G 31 #[.slice A N ca, .slice A2 M ca2] := by rw [hw1, hG]; exact Bk.new w _ _
  have b1 : Below w.heap.size w w1 := by rw [hw1]; exact Gw.alloc w _
  rw [← hw1, ← hG]
  have HW1 := Lib.hid (fun W (b : Below w1.heap.size w1 W) => HW.out W (b1.trans (b.mono b1.size)))
  have hGl := hbk.lt
  have H1 := Lib.hid b1
  obtain ⟨g0, g1⟩ := hbk.two
  clear hw1 hG hbk b1 HW
  refine nd1 _ _ _ G N M ca ca2 A A2 z hGl g0 g1 hMi z0 z1 (Lib.hid (fun W b => (HW1.out W b).mono fun r w' h => h)) rfl ?_ ?_
  · rfl
  intro vals w2 hG2 h2
  unfold IsV at h2
  simp only [putD, Act.put, List.setIfInBounds_toArray, List.set_cons_zero, List.set_cons_succ, h2]
  have H2 := Lib.hid (H1.out.trans (hG2.mono H1.out.size))
  clear hG2 h2
  go_wp2_with fail
  go_ret
  exact ⟨rfl, H2.out⟩
end Go.Proofs.Ytkkjnahjmomjgaa
/- loamref17.Encode: the append that fills a name up; the row of the first two words. Conditions: lengths. -/
namespace Go.Proofs.Ytkkjnahjmomjgaa
set_option linter.unusedVariables false
set_option linter.unusedSimpArgs false
open Go.RowKit
set_option maxHeartbeats 2000000
theorem run_appM0 {P : Program} (w : World) (t tn ty e : TypeId) (i : TypeInfo) (z : Value) (kq kn : IntKind) (ht : P.underlying t = some (.slice e)) (htn : P.underlying tn = some (.int kn)) (hi : P.info? e = some i) (hz : i.zero = some z) (hs1 : i.size = 1) (hb1 : i.bytes = 1)
    (g n cap : Nat) (hn : n ≤ cap) (hb : n ≤ 1000000000) : (Builtin.append_ #[t, tn] ty #[.slice (some ⟨g, 0, none⟩) n cap, .int kq 0]).run P w = .ok (.slice (some ⟨g, 0, none⟩) n cap) w := by
  have hw : IntKind.i64.wrap (0 : Int) = 0 := by rw [IntKind.wrap_i64]; omega
  have h63' : ¬ (9223372036854775807 < (n : Int)) := by omega
  simp [Builtin.append_, run_underlying ht, run_underlying htn, sizeOf, typeInfo, zeroValue, hi, hz, hs1, hb1, asInt, asIntOf, hw, hn, h63', Question.forced]
  rfl
theorem nameW_cells {s : ByteArray} (cs : List Value) (h : cs = s.data.toList.map (fun b => Value.int .u8 b.toNat)) : cs ++ List.replicate (32 - s.size) (Value.int .u8 0) = (nameW s).map b8 := by
  subst h
  unfold nameW
  rw [List.map_append, List.map_map, List.map_replicate]
  rfl
theorem rd_cells {α : Type} {f : α → Value} {w : World} {q : Nat} {xs : List α} (hq : q < w.heap.size) (h : ∀ (j : Nat) (u : Value), (xs.map f)[j]? = some u → w.cell? ⟨q, j, none⟩ = some u) : Rd f w w.heap.size (some ⟨q, 0, none⟩) xs := by
  intro j hj
  refine ⟨_, rfl, hq, ?_⟩
  rw [add_off, Nat.zero_add]
  exact h j _ (by rw [List.getElem?_map, List.getElem?_eq_getElem hj]; rfl)
theorem wp_nm {ops : Array Oper} {rest : List Oper} {o : Oper} {a : Act} {w : World} {Q : Exit → Act → World → Prop} (hgd : o.guard = none) (s x : Operand)
    (ho : o.op = .call { callee := .builtin .append, args := #[s, x], argTypes := #[52, 3] })
    (base : Nat) (nm : ByteArray) (v : Value) (hs : a.eval s = v) (hcv : CvV nm base v w) (hz : nm.size ≤ 32) (z : Int) (hzz : z = 32 - (nm.size : Int)) (hx : a.eval x = .int .i64 z) (hbase : base ≤ w.heap.size)
    (h : ∀ (q c : Nat) (w' : World), Rd b8 w' w'.heap.size (some ⟨q, 0, none⟩) (nameW nm) → Below base w w' → wpList Try.prog ops Q rest (a.put o.dst (.slice (some ⟨q, 0, none⟩) 32 c)) w') : wpList Try.prog ops Q (o :: rest) a w := by
  obtain ⟨g, cur, rfl, hB, hh, hnc, htk⟩ := hcv
  have hlt : g < w.heap.size := (Array.getElem?_eq_some_iff.1 hh).1
  have hI := infoB
  cases hi : Try.prog.info? 5 with
  | none => rw [hi] at hI; cases hI
  | some i =>
    rw [hi] at hI
    simp only [Option.map_some, Option.some.injEq, Prod.mk.injEq] at hI
    have hcl : (cur.toList.take nm.size).length = nm.size := by rw [List.length_take]; simp; omega
    by_cases hk : nm.size = 32
    · have hz0 : z = 0 := by omega
      subst hz0
      have hr := run_appM0 (P := Try.prog) w 52 3 o.type 5 i (.int .u8 0) .i64 .i64 Try.underlying52 Try.underlying3 hi hI.1 hI.2.1 hI.2.2 g nm.size cur.size hnc (by omega)
      refine Lib.wpList_append_run w hgd s x _ _ ho _ _ hs hx _ w hr ?_
      rw [hk]
      refine h g cur.size w (rd_cells hlt fun j u hu => ?_) (Below.refl _ _)
      rw [← nameW_cells _ htk, hk, Nat.sub_self, List.replicate_zero, List.append_nil, List.getElem?_take_of_lt (by have := (List.getElem?_eq_some_iff.1 hu).1; simp [nameW_len hz] at this; omega)] at hu
      simp [World.cell?, hh]
      simpa using hu
    · obtain ⟨v', w', hr, q, c, e1, hq1, hq2, hc, hb⟩ := run_appM (P := Try.prog) w base 52 3 o.type 5 i (.int .u8 0) .i64 .i64 Try.underlying52 Try.underlying3 hi hI.1 hI.2.1 hI.2.2 rfl rfl g nm.size cur.size cur hh hnc rfl _ hcl rfl (32 - nm.size) (by omega) (by omega) hB
      subst e1
      have hze : z = ((32 - nm.size : Nat) : Int) := by omega
      rw [hze] at hx
      refine Lib.wpList_append_run w hgd s x _ _ ho _ _ hs hx _ w' hr ?_
      rw [show nm.size + (32 - nm.size) = 32 from by omega]
      refine h q c w' (rd_cells hq2 fun j u hu => hc j u ?_) hb
      rw [nameW_cells _ htk]
      exact hu
theorem ow_front (w : World) (R t : Nat) (h : R + t * 65536 < 18446744073709551616) : Ow u64v 57 (w.alloc (.cells #[.int .u64 1296125772, .int .u64 ((R : Int) + (t : Int) * 65536)] 57)) w.heap.size (.slice (some ⟨w.heap.size, 0, none⟩) 2 2) (frontW R t) := by
  have e : u64v (BitVec.ofNat 64 (R + t * 65536)) = .int .u64 ((R : Int) + (t : Int) * 65536) := by
    unfold u64v U64
    rw [BitVec.toNat_ofNat, Nat.mod_eq_of_lt (by omega)]
    first | rfl | (congr 1; done) | (congr 1; omega)
  refine ⟨rfl, .inr ⟨w.heap.size, 2, _, rfl, Nat.le_refl _, heap_alloc_new w _, Nat.le_refl _, by simp [maxLen], rfl, ?_⟩⟩
  unfold frontW
  rw [List.map_cons, List.map_cons, List.map_nil, e]
  rfl
end Go.Proofs.Ytkkjnahjmomjgaa
/- loamref17.Encode. Conditions: a graph of few nodes. -/
namespace Go.Proofs.Ytkkjnahjmomjgaa
set_option linter.unusedVariables false
set_option linter.unusedSimpArgs false
open Go.RowKit Go.Maps
set_option maxHeartbeats 4000000
set_option maxRecDepth 100000
/-- What Encode answers. -/
def EncP (g : Gv) (w : World) (r : Ending) (w' : World) : Prop :=
  (∃ er : Int, er ≠ 0 ∧ r = .returned (.tuple #[.slice none 0 0, .int .i64 er]) ∧ Below w.heap.size w w') ∨
  (ckG g = 0 ∧ endL g.n (2 + 5 * g.r.length) ≤ 8192 ∧ ∃ v, r = .returned (.tuple #[v, .int .i64 0]) ∧ Ow u64v 57 w' w.heap.size v (encW g.n g.r) ∧ Below w.heap.size w w')
/-- What Encode answers of a graph: 0, or why not. -/
def errG (g : Gv) : Int := if ckG g = 0 then (if 8192 < endL g.n (2 + 5 * g.r.length) then 3 else 0) else ckG g
def EncX (g : Gv) (w : World) (r : Ending) (w' : World) : Prop :=
  (errG g ≠ 0 ∧ r = .returned (.tuple #[.slice none 0 0, .int .i64 (errG g)]) ∧ Below w.heap.size w w') ∨
  (ckG g = 0 ∧ endL g.n (2 + 5 * g.r.length) ≤ 8192 ∧ ∃ v, r = .returned (.tuple #[v, .int .i64 0]) ∧ Ow u64v 57 w' w.heap.size v (encW g.n g.r) ∧ Below w.heap.size w w')
theorem rencodeX_c (w : World) (g : Gv) (hg : g.At w w.heap.size) (hs : FewP g) : Calls Try.prog 11 #[g.v] w (EncX g w) := by
  have HCk := Lib.hid (fun W (b : Below w.heap.size w W) => rcheck_c W g (hg.up b) hs)
  have HNd := Lib.hid (fun W (b : Below w.heap.size w W) => rneed_c W g (hg.up b) hs)
  obtain ⟨E, hE⟩ : ∃ E, E = EncX g w := ⟨_, rfl⟩
  have HE := Lib.hid hE
  have HG := Lib.hid (And.intro hg hs)
  obtain ⟨er, her⟩ : ∃ er, er = ckG g := ⟨_, rfl⟩
  have HEr := Lib.hid her
  rw [← her] at HCk
  obtain ⟨nd, hnd⟩ : ∃ nd, nd = 2 + 5 * (g.r.length : Int) + wordsL g.n := ⟨_, rfl⟩
  have HNn := Lib.hid hnd
  rw [← hnd] at HNd
  rw [← hE]
  obtain ⟨A, ca, A2, ca2, ns, rs⟩ := g
  obtain ⟨N, hN⟩ : ∃ N, N = ns.length := ⟨_, rfl⟩
  obtain ⟨M, hM⟩ : ∃ M, M = rs.length := ⟨_, rfl⟩
  have HN := Lib.hid (And.intro hN hM)
  have NI : (N : Int) ≤ 60 := by rw [hN]; exact Int.ofNat_le.2 hs.1
  have MI : (M : Int) ≤ 80 := by rw [hM]; exact Int.ofNat_le.2 hs.2.1
  unfold Gv.v Gv.vn Gv.vr at HCk HNd ⊢
  simp only at HCk HNd ⊢
  rw [← hN, ← hM] at HCk HNd ⊢
  clear hg hs hE her hnd hN hM
  go_enter Try.func11, Try.ntmps11
  go_wp2_with fail
  obtain ⟨G, hG⟩ : ∃ G, G = w.heap.size := ⟨_, rfl⟩
  obtain ⟨w1, hw1⟩ : ∃ W, W = w.alloc (.cells #[.slice A N ca, .slice A2 M ca2] 31) := ⟨_, rfl⟩
  have hbk : Bk w1 G 31 #[.slice A N ca, .slice A2 M ca2] := by rw [hw1, hG]; exact Bk.new w _ _
  have b1 : Below w.heap.size w w1 := by rw [hw1]; exact Gw.alloc w _
  rw [← hw1, ← hG]
  have H1 := Lib.hid (And.intro hbk b1)
  clear hw1 hG hbk b1
  refine Calls.mono (HCk.out w1 H1.out.2) ?_
  rintro r w2 ⟨rfl, b2⟩
  have H2 := Lib.hid (And.intro (H1.out.1.below b2 H1.out.1.lt) (H1.out.2.trans (b2.mono H1.out.2.size)))
  obtain ⟨g0, g1⟩ := H2.out.1.two
  clear b2
  by_cases he : er = 0
  · subst he
    go_wp2_with fail
    refine Calls.mono (HNd.out w2 H2.out.2) ?_
    rintro r w3 ⟨rfl, b3⟩
    have H3 := Lib.hid (And.intro (H2.out.1.below b3 H2.out.1.lt) (H2.out.2.trans (b3.mono H2.out.2.size)))
    clear b3 g0 g1
    obtain ⟨g0, g1⟩ := H3.out.1.two
    by_cases hlong : 8192 < nd
    · have t1 : decide ((8192 : Int) < nd) = true := decide_eq_true hlong
      go_wp2_with fail
      rw [HE.out]
      have hck := ckG_ok HEr.out.symm
      have hend : (endL ns (2 + 5 * M) : Int) = nd := by
        have h1 := wordsL_end ns (fun x hx => (hck.1 x hx).2)
        rw [HNn.out]
        show _ = 2 + 5 * (rs.length : Int) + wordsL ns
        rw [h1, endL_add ns (2 + 5 * M), HN.out.2]
        omega
      have e3 : errG ⟨A, ca, A2, ca2, ns, rs⟩ = 3 := by
        unfold errG
        rw [if_pos HEr.out.symm, if_pos (by show 8192 < endL ns (2 + 5 * rs.length); rw [← HN.out.2]; omega)]
      exact .inl ⟨by rw [e3]; decide, by rw [e3]; rfl, H3.out.2⟩
    · have hck := ckG_ok HEr.out.symm
      have hend : (endL ns (2 + 5 * M) : Int) = nd := by
        have h1 := wordsL_end ns (fun x hx => (hck.1 x hx).2)
        rw [HNn.out]
        show _ = 2 + 5 * (rs.length : Int) + wordsL ns
        rw [h1, endL_add ns (2 + 5 * M), HN.out.2]
        omega
      obtain ⟨a0, ha0⟩ : ∃ a, a = 2 + 5 * M := ⟨_, rfl⟩
      have ha1 : (2 : Int) + 5 * (M : Int) = (a0 : Int) := by omega
      have ha2 : (a0 : Int) ≤ 8192 := by omega
      have HA := Lib.hid (And.intro ha0 (And.intro hck (show endL ns a0 ≤ 8192 by rw [ha0]; omega)))
      have HS0 : Hid (a0 = endL (ns.take 0) a0 ∧ Ow iN 3 w3 w3.heap.size (.slice none 0 0) (placeL (ns.take 0) a0) ∧ Below w3.heap.size w3 w3) := Lib.hid ⟨by simp [endL], by simp [placeL]; exact Ow.nil_ _ _ _ _, Below.refl _ _⟩
      clear hck hend ha0
      go_wp2_with fail
      go_loopw [5, 6, 7] (fun at_ pl i W => ∃ k a : Nat, at_ = .int .i64 a ∧ i = .int .i64 k ∧ k ≤ N ∧ a ≤ 8192 ∧ Hid (a = endL (ns.take k) a0 ∧ Ow iN 3 W w3.heap.size pl (placeL (ns.take k) a0) ∧ Below w3.heap.size w3 W)) (fun _ _ i _ => N - (Go.RowKit.intOf i).toNat)
      case atStart => exact ⟨0, a0, rfl, rfl, Nat.zero_le _, by omega, HS0⟩
      case round =>
        obtain ⟨k, a, rfl, rfl, hk, ha8, hS⟩ := hrel
        clear HS0
        obtain ⟨q1, q2⟩ := (H3.out.1.below hS.out.2.2 H3.out.1.lt).two
        have k0 : (0 : Int) ≤ (k : Int) := by omega
        have a8 : (a : Int) ≤ 8192 := by omega
        by_cases hlt : k < N
        · have k1 : (k : Int) < (N : Int) := by omega
          have hkl : k < ns.length := by rw [← HN.out.1]; exact hlt
          obtain ⟨x, hx⟩ : ∃ x, x = ns[k] := ⟨_, rfl⟩
          have hxl : x.ps.length ≤ 64 ∧ x.bs.length ≤ 1024 := by rw [hx]; exact (HA.out.2.1.1 _ (List.getElem_mem hkl)).2
          have hsz := szN_szG hxl.1 hxl.2
          obtain ⟨sz, hszz⟩ : ∃ z, z = szG x := ⟨_, rfl⟩
          have hplen : (placeL (ns.take k) a0).length = k := by rw [placeL_len, List.length_take, ← HN.out.1]; omega
          have htk : ns.take (k + 1) = ns.take k ++ [x] := by rw [hx]; exact take_snoc ns k hkl
          have hend : endL (ns.take (k + 1)) a0 = a + sz := by rw [htk, endL_snoc, ← hS.out.1, hszz]
          have hle : a + sz ≤ 8192 := by rw [← hend]; exact Nat.le_trans (endL_take_le ns (k + 1) a0) HA.out.2.2
          obtain ⟨ad, hA, hadl, hc2, hc3, hxat⟩ := (HG.out.1.up H3.out.2).n k hkl
          rw [← hx] at hc2 hc3
          have HSz := Lib.hid (fun W => rsz_c W x.A x.D x.ps.length x.c x.bs.length x.d)
          unfold szN at hsz
          rw [hsz, ← hszz] at HSz
          obtain ⟨A3, c3, e0, _⟩ := hS.out.2.1.form
          rw [hplen] at e0
          have HX := Lib.hid (And.intro htk (And.intro hend (And.intro hle (And.intro hplen (And.intro hS.out.1 (And.intro hS.out.2.1 hS.out.2.2))))))
          obtain ⟨xA, xc, xD, xd, xps, xbs⟩ := x
          obtain ⟨nx, hnx⟩ : ∃ z, z = xps.length := ⟨_, rfl⟩
          obtain ⟨mx, hmx⟩ : ∃ z, z = xbs.length := ⟨_, rfl⟩
          unfold Nv.vp at hc2
          unfold Nv.vd at hc3
          simp only at hc2 hc3 HSz
          rw [← hnx] at hc2 HSz
          rw [← hmx] at hc3 HSz
          have HLn := Lib.hid (show (placeL (ns.take k) a0).length + [a].length ≤ 4294967296 by rw [hplen]; simp; omega)
          have HBs := Lib.hid (show w3.heap.size ≤ wr.heap.size from hS.out.2.2.size)
          have hl9 : (ad.add (k * 2)).block < w3.heap.size := by rw [add_block]; exact hadl
          have HC := Lib.hid (fun W (hb : Below w3.heap.size w3 W) => show W.cell? ⟨G, 0, none⟩ = some (.slice A N ca) ∧ W.cell? ⟨G, 1, none⟩ = some (.slice A2 M ca2) ∧ W.cell? (ad.add (k * 2)) = some (.slice xA nx xc) ∧ W.cell? ⟨(ad.add (k * 2)).block, (ad.add (k * 2)).off + 1, none⟩ = some (.slice xD mx xd) from
            ⟨(H3.out.1.below hb H3.out.1.lt).two.1, (H3.out.1.below hb H3.out.1.lt).two.2, (hb.cell (p := ad.add (k * 2)) hl9).trans hc2, (hb.cell (p := ⟨(ad.add (k * 2)).block, (ad.add (k * 2)).off + 1, none⟩) hl9).trans hc3⟩)
          have s2 : (sz : Int) ≤ 8192 := by omega
          have s3 : (a : Int) + (sz : Int) ≤ 8192 := by omega
          have HO := Lib.hid hS.out.2.1
          subst e0 hA
          have HD := Lib.hid (And.intro hk (And.intro ha8 hlt))
          obtain ⟨q1, q2, q3, q4⟩ := HC.out wr HX.out.2.2.2.2.2.2
          clear hxat hS hend hle hplen hx hxl hsz hszz htk hc2 hc3 hadl hl9 hkl hnx hmx hk ha8 hlt g0 g1
          go_wp2_with (at_builtin; refine wp_app oneI iN_one rfl (.tmp 36) (.tmp 38) rfl w3.heap.size _ (placeL (ns.take k) a0) rfl (HO.out.alloc _) (some ⟨wr.heap.size, 0, none⟩) 1 1 [a] rfl rfl (wr.heap.size + 1) (rdN_new wr a) HLn.out (by decide) (Nat.le_trans HBs.out (Gw.alloc wr _).size) ?_; intro v6 w6 ho6 hb6 hg6 hj6; have hb7 : Below w3.heap.size w3 w6 := (HX.out.2.2.2.2.2.2.trans ((Gw.alloc wr _).mono HBs.out)).trans hb6; clear q1 q2 q3 q4; obtain ⟨q1, q2, q3, q4⟩ := HC.out w6 hb7; have H6 := Lib.hid (And.intro ho6 hb7); clear ho6 hb6 hg6 hj6 hb7)
          refine Calls.mono (HSz.out w6) ?_
          rintro r w7 ⟨rfl, b7⟩
          have H7 := Lib.hid (And.intro (H6.out.1.below b7) (H6.out.2.trans (b7.mono H6.out.2.size)))
          clear b7 q1 q2 q3 q4
          go_wp2_with fail
          go_roundw
          case rel =>
            obtain ⟨y1, y2, y3, y4, y5, y6, y7⟩ := HX.out
            have hp : placeL (ns.take (k + 1)) a0 = placeL (ns.take k) a0 ++ [a] := by rw [y1, placeL_snoc, ← y5]
            exact ⟨k + 1, a + sz, by go_num, by go_num, by have := HD.out.2.2; omega, y3, Lib.hid ⟨y2.symm, by rw [hp]; exact H7.out.1, H7.out.2⟩⟩
          case measure => simp [Go.RowKit.intOf]; have := HD.out.2.2; omega
        · have k1 : ¬ (k : Int) < (N : Int) := by omega
          have hkN : k = N := by omega
          have hst := hS.out
          rw [hkN, List.take_of_length_le (by rw [← HN.out.1]; exact Nat.le_refl _)] at hst
          have hpn : (placeL ns a0).length = N := by rw [placeL_len, ← HN.out.1]
          obtain ⟨Ap, cp, e0, _⟩ := hst.2.1.form
          rw [hpn] at e0
          have HP := Lib.hid (And.intro hst (And.intro hpn (show a ≤ 8192 from ha8)))
          have hcut := fun W (b : Below w3.heap.size w3 W) => (H3.out.1.below b H3.out.1.lt).two
          have HC := Lib.hid hcut
          subst e0
          have hb3 := H3.out.2.trans (hS.out.2.2.mono H3.out.2.size)
          have hgu := HG.out.1.up hb3
          have HW := Lib.hid (And.intro hb3 (And.intro hgu (show G < wr.heap.size from (H3.out.1.below hS.out.2.2 H3.out.1.lt).lt)))
          have HFr := Lib.hid (ow_front wr M a (by omega))
          clear hS hst hpn hcut hkN hk g0 g1 hb3 hgu
          go_wp2_with fail
          obtain ⟨B4, hB4⟩ : ∃ B, B = wr.heap.size := ⟨_, rfl⟩
          obtain ⟨w4, hw4⟩ : ∃ W, W = wr.alloc (.cells #[.int .u64 1296125772, .int .u64 ((M : Int) + (a : Int) * 65536)] 57) := ⟨_, rfl⟩
          have hfr := HFr.out
          have b4 : Below wr.heap.size wr w4 := by rw [hw4]; exact Gw.alloc wr _
          rw [← hw4] at hfr ⊢
          obtain ⟨F1, F2, F3⟩ := HW.out
          have HP4 := Lib.hid (show Rd iN w4 B4 (Ap) (placeL ns a0) ∧ Gv.At w4 B4 ⟨A, ca, A2, ca2, ns, rs⟩ ∧ G < B4 ∧ (w4.cell? ⟨G, 0, none⟩ = some (.slice A N ca) ∧ w4.cell? ⟨G, 1, none⟩ = some (.slice A2 M ca2)) ∧ Below w.heap.size w w4 ∧ B4 ≤ w4.heap.size ∧ w.heap.size ≤ B4 from by
            rw [hB4]
            have h0 := HP.out.1.2.1
            rw [← HP.out.2.1] at h0
            have h1 := h0.rd
            exact ⟨h1.below b4, F2.below b4, F3, HC.out w4 (HP.out.1.2.2.trans (b4.mono HP.out.1.2.2.size)), F1.trans (b4.mono F1.size), b4.size, F1.size⟩)
          have HS0 : Hid (Ow u64v 57 w4 B4 (.slice (some ⟨wr.heap.size, 0, none⟩) 2 2) (frontW M a ++ (rs.take 0).flatMap (rootW (placeL ns a0))) ∧ Below B4 w4 w4) := Lib.hid ⟨by rw [hB4]; simpa using hfr, Below.refl _ _⟩
          rw [← hB4] at HS0 ⊢
          have HP5 := Lib.hid (And.intro HP.out.1.1 (And.intro HP.out.2.1 HP.out.2.2))
          clear HW HFr HC HP hB4 hw4 hfr b4 F1 F2 F3 q1 q2
          go_loopw [8, 9] (fun o i W => ∃ k : Nat, i = .int .i64 k ∧ k ≤ M ∧ Hid (Ow u64v 57 W B4 o (frontW M a ++ (rs.take k).flatMap (rootW (placeL ns a0))) ∧ Below B4 w4 W)) (fun _ i _ => M - (Go.RowKit.intOf i).toNat)
          case atStart => exact ⟨0, rfl, Nat.zero_le _, HS0⟩
          case round =>
            obtain ⟨k, rfl, hk, hS⟩ := hrel
            clear HS0
            have k0 : (0 : Int) ≤ (k : Int) := by omega
            have hGB := HP4.out.2.2.1
            have q1 : wr.cell? ⟨G, 0, none⟩ = some (.slice A N ca) := (hS.out.2.cell (p := ⟨G, 0, none⟩) hGB).trans HP4.out.2.2.2.1.1
            have q2 : wr.cell? ⟨G, 1, none⟩ = some (.slice A2 M ca2) := (hS.out.2.cell (p := ⟨G, 1, none⟩) hGB).trans HP4.out.2.2.2.1.2
            by_cases hlt : k < M
            · have k1 : (k : Int) < (M : Int) := by omega
              have hkl : k < rs.length := by rw [← HN.out.2]; exact hlt
              obtain ⟨s, hs⟩ : ∃ x, x = rs[k].s := ⟨_, rfl⟩
              obtain ⟨t, ht⟩ : ∃ x, x = rs[k].t := ⟨_, rfl⟩
              have hgd := HA.out.2.1.2.2 _ (List.getElem_mem hkl)
              rw [← hs, ← ht] at hgd
              have hsz := (goodS_size hgd.1).2
              have hto := okP_iff.1 hgd.2
              have hflat : (rs.take (k + 1)).flatMap (rootW (placeL ns a0)) = (rs.take k).flatMap (rootW (placeL ns a0)) ++ (wordsW (nameW s) ++ [pointW (placeL ns a0) t]) := by
                rw [take_snoc rs k hkl, List.flatMap_append, hs, ht]
                simp [rootW]
              obtain ⟨ad, hA2, hadl, cs, ct⟩ := (HP4.out.2.1.below hS.out.2).r k hkl
              rw [← hs] at cs
              rw [← ht] at ct
              have hBw : B4 ≤ wr.heap.size := Nat.le_trans HP4.out.2.2.2.2.2.1 hS.out.2.size
              have hl9 : (ad.add (k * 2)).block < B4 := by rw [add_block]; exact hadl
              have HD := Lib.hid (And.intro hflat (And.intro hto (And.intro hsz (And.intro hl9 (And.intro ct (And.intro hBw hlt))))))
              have MI2 : (M : Int) ≤ 100000 := by omega
              have HO := Lib.hid hS.out
              subst hA2
              have hGw : G < wr.heap.size := by omega
              have hlw : (ad.add (k * 2)).block < wr.heap.size := by omega
              clear hS hs ht hgd hto hflat hadl hkl ct hl9 hlt hk hGB q1
              go_wp2_with fail
              refine en17 _ _ _ G k M ca2 ad s hGw q2 hlw cs hsz k0 k1 MI2 rfl ?_ ?_ ?_
              · rfl
              · rfl
              intro vals w5 hG5 h70 h78
              unfold IsV at h78
              simp only [putD, Act.put, List.setIfInBounds_toArray, List.set_cons_zero, List.set_cons_succ, h78]
              refine wp_nm rfl (.tmp 70) (.tmp 78) rfl wr.heap.size s _ rfl h70 HD.out.2.2.1 _ rfl rfl hG5.size ?_
              intro q c8 w6 hrd hb6
              have hb56 : Below wr.heap.size wr w6 := hG5.trans hb6
              have HRw := Lib.hid (show Calls Try.prog 32 #[.slice (some ⟨q, 0, none⟩) 32 c8] w6 (MkP u64v 57 (wordsW (nameW s)) w6) from by
                have h := rwd_c w6 _ c8 (nameW s) hrd (by rw [nameW_len HD.out.2.2.1]; omega)
                rw [nameW_len HD.out.2.2.1] at h
                exact h)
              have H6 := Lib.hid (And.intro (HO.out.1.below hb56) (And.intro hb56 (HO.out.2.trans (hb56.mono HD.out.2.2.2.2.2.1))))
              clear hrd hb6 hb56 hG5 h70 h78 q2 cs
              refine ⟨rfl, trivial, ?_⟩
              simp only [Act.put, putD]
              go_wp2_with fail
              refine Calls.mono HRw.out ?_
              rintro r w7 ⟨Aw, cw, rfl, _, how, b7⟩
              have hw4 : (wordsW (nameW s)).length = 4 := by rw [wordsW_len, nameW_len HD.out.2.2.1]
              have hL : (frontW M a ++ (rs.take k).flatMap (rootW (placeL ns a0))).length = 2 + 5 * k := by
                rw [List.length_append, roots_len _ _ (fun r hr => (goodS_size (HA.out.2.1.2.2 _ (List.mem_of_mem_take hr)).1).2), List.length_take, ← HN.out.2, Nat.min_eq_left (by have := HD.out.2.2.2.2.2.2; omega)]
                rfl
              obtain ⟨xs, hxs⟩ : ∃ xs, xs = frontW M a ++ (rs.take k).flatMap (rootW (placeL ns a0)) := ⟨_, rfl⟩
              obtain ⟨ys, hys⟩ : ∃ ys, ys = wordsW (nameW s) := ⟨_, rfl⟩
              have h8 := H6.out.1.below b7
              rw [← hxs] at h8 hL
              rw [← hys] at how hw4 ⊢
              have hrw := how.rd
              rw [hw4]
              obtain ⟨A8, c8', e8, _⟩ := h8.form
              obtain ⟨L8, hL8⟩ : ∃ L, L = xs.length := ⟨_, rfl⟩
              rw [← hL8] at e8
              have hb47 : Below B4 w4 w7 := H6.out.2.2.trans (b7.mono (Nat.le_trans HD.out.2.2.2.2.2.1 H6.out.2.1.size))
              have H7 := Lib.hid (And.intro h8 (And.intro hrw (And.intro hb47 (And.intro hw4 (show xs.length + ys.length ≤ 4294967296 by rw [hL, hw4]; have := HD.out.2.2.2.2.2.2; omega)))))
              have HXs := Lib.hid (And.intro hxs (And.intro hys (And.intro hL hL8)))
              have HB7 := Lib.hid (show B4 ≤ w7.heap.size from Nat.le_trans (Nat.le_trans HD.out.2.2.2.2.2.1 H6.out.2.1.size) b7.size)
              have HPt := Lib.hid (fun W (hb : Below B4 w4 W) => point_c W Ap cp (placeL ns a0) (((HP4.out.1.below hb).more (Nat.le_trans HP4.out.2.2.2.2.2.1 hb.size))) t HD.out.2.1.1 (by rw [HP5.out.2.1, HN.out.1]; exact HD.out.2.1.2) (by rw [HP5.out.2.1]; omega) (fun x hx => by have h := placeL_lt ns a0 x hx; have := HA.out.2.2; omega))
              rw [HP5.out.2.1] at HPt
              have HCt := Lib.hid (fun W (hb : Below B4 wr W) => show W.cell? ⟨G, 1, none⟩ = some (.slice (some ad) M ca2) ∧ W.cell? ⟨(ad.add (k * 2)).block, (ad.add (k * 2)).off + 1, none⟩ = some (.int .i64 t) from
                ⟨((HO.out.2.trans hb).cell (p := ⟨G, 1, none⟩) HP4.out.2.2.1).trans HP4.out.2.2.2.1.2, (hb.cell (p := ⟨(ad.add (k * 2)).block, (ad.add (k * 2)).off + 1, none⟩) HD.out.2.2.2.1).trans HD.out.2.2.2.2.1⟩)
              have HWr7 := Lib.hid (show Below B4 wr w7 from (H6.out.2.1.mono HD.out.2.2.2.2.2.1).trans (b7.mono (Nat.le_trans HD.out.2.2.2.2.2.1 H6.out.2.1.size)))
              subst e8
              clear how b7 hw4 hL hxs hys h8 hrw hL8 hb47 hlw hGw hsz hBw
              go_wp2_with (at_builtin; refine wp_app one64 u64v_one rfl (.tmp 80) (.tmp 82) rfl B4 _ xs rfl H7.out.1 Aw 4 cw ys rfl H7.out.2.2.2.1.symm w7.heap.size H7.out.2.1 H7.out.2.2.2.2 (by decide) HB7.out ?_; intro v8 w8 ho8 hb8 hg8 hj8; have hbr := HWr7.out.trans hb8; obtain ⟨d1, d2⟩ := HCt.out w8 hbr; obtain ⟨A9, c9, e9, _⟩ := ho8.form; obtain ⟨L9, hL9⟩ : ∃ L, L = (xs ++ ys).length := ⟨_, rfl⟩; rw [← hL9] at e9; have H8 := Lib.hid (And.intro ho8 (And.intro (H7.out.2.2.1.trans hb8) (And.intro hbr hL9))); subst e9; clear ho8 hb8 hg8 hj8 hbr hL9)
              refine Calls.mono (HPt.out w8 H8.out.2.1) ?_
              rintro r w9 ⟨rfl, b9⟩
              obtain ⟨pw, hpw⟩ : ∃ y, y = pointW (placeL ns a0) t := ⟨_, rfl⟩
              rw [← hpw]
              have hB8 : B4 ≤ w8.heap.size := Nat.le_trans HP4.out.2.2.2.2.2.1 H8.out.2.1.size
              have h9 : Ow u64v 57 w9 B4 (.slice A9 L9 c9) (xs ++ ys) := H8.out.1.below b9
              have hR : Rd u64v (w9.alloc (.cells #[.int .u64 (U64 pw)] 57)) (w9.heap.size + 1) (some ⟨w9.heap.size, 0, none⟩) [pw] := rd1_new rfl
              have H9 := Lib.hid (And.intro h9 (And.intro (H8.out.2.1.trans (b9.mono hB8)) (And.intro hR (And.intro (show (xs ++ ys).length + [pw].length ≤ 4294967296 by rw [List.length_append, HXs.out.2.2.1, H7.out.2.2.2.1]; have := HD.out.2.2.2.2.2.2; simp; omega) (And.intro (show B4 ≤ (w9.alloc (.cells #[.int .u64 (U64 pw)] 57)).heap.size from Nat.le_trans (Nat.le_trans hB8 b9.size) (Gw.alloc w9 _).size) hpw)))))
              clear b9 h9 hR hB8 hpw d1 d2
              go_wp2_with (at_builtin; refine wp_app one64 u64v_one rfl (.tmp 84) (.tmp 93) rfl B4 _ (xs ++ ys) rfl (H9.out.1.alloc _) (some ⟨w9.heap.size, 0, none⟩) 1 1 [pw] rfl rfl (w9.heap.size + 1) H9.out.2.2.1 H9.out.2.2.2.1 (by decide) H9.out.2.2.2.2.1 ?_; intro v10 w10 ho10 hb10 hg10 hj10; have H10 := Lib.hid (And.intro ho10 ((H9.out.2.1.trans ((Gw.alloc w9 _).mono (Nat.le_trans HP4.out.2.2.2.2.2.1 H9.out.2.1.size))).trans hb10)); clear ho10 hb10 hg10 hj10)
              go_roundw
              case rel =>
                refine ⟨k + 1, by go_num, by have := HD.out.2.2.2.2.2.2; omega, Lib.hid ⟨?_, H10.out.2⟩⟩
                rw [HD.out.1, ← HXs.out.2.1, ← H9.out.2.2.2.2.2, ← List.append_assoc, ← List.append_assoc, ← HXs.out.1]
                exact H10.out.1
              case measure => simp [Go.RowKit.intOf]; have := HD.out.2.2.2.2.2.2; omega
            · have k1 : ¬ (k : Int) < (M : Int) := by omega
              have hkM : k = M := by omega
              have hst := hS.out
              rw [hkM, List.take_of_length_le (by rw [← HN.out.2]; exact Nat.le_refl _)] at hst
              have hL : (frontW M a ++ rs.flatMap (rootW (placeL ns a0))).length = 2 + 5 * M := by
                rw [List.length_append, roots_len _ _ (fun r hr => (goodS_size (HA.out.2.1.2.2 _ hr).1).2), ← HN.out.2]
                rfl
              obtain ⟨fr, hfr⟩ : ∃ xs, xs = frontW M a ++ rs.flatMap (rootW (placeL ns a0)) := ⟨_, rfl⟩
              rw [← hfr] at hst hL
              have HFr := Lib.hid (And.intro hfr hL)
              have HS1 : Hid (Ow u64v 57 wr B4 u8 (fr ++ (ns.take 0).flatMap (nodeW (placeL ns a0))) ∧ Below B4 w4 wr) := Lib.hid ⟨by simpa using hst.1, hst.2⟩
              clear hS hst hfr hkM hk hL hGB
              go_wp2_with fail
              clear q1 q2
              go_loopw [8, 11] (fun o i W => ∃ k : Nat, i = .int .i64 k ∧ k ≤ N ∧ Hid (Ow u64v 57 W B4 o (fr ++ (ns.take k).flatMap (nodeW (placeL ns a0))) ∧ Below B4 w4 W)) (fun _ i _ => N - (Go.RowKit.intOf i).toNat)
              case atStart => exact ⟨0, rfl, Nat.zero_le _, HS1⟩
              case round =>
                obtain ⟨k, rfl, hk, hS⟩ := hrel
                clear HS1
                have k0 : (0 : Int) ≤ (k : Int) := by omega
                have q1 : wr.cell? ⟨G, 0, none⟩ = some (.slice A N ca) := (hS.out.2.cell (p := ⟨G, 0, none⟩) HP4.out.2.2.1).trans HP4.out.2.2.2.1.1
                by_cases hlt : k < N
                · have k1 : (k : Int) < (N : Int) := by omega
                  have hkl : k < ns.length := by rw [← HN.out.1]; exact hlt
                  obtain ⟨x, hx⟩ : ∃ x, x = ns[k] := ⟨_, rfl⟩
                  obtain ⟨ad, hA, hadl, hc2, hc3, hxatw⟩ := (HP4.out.2.1.below hS.out.2).n k hkl
                  have hxat : Nv.At w4 B4 ns[k] := by
                    obtain ⟨_, _, _, _, _, h⟩ := HP4.out.2.1.n k hkl
                    exact h
                  clear hxatw
                  rw [← hx] at hc2 hc3 hxat
                  have hok := HA.out.2.1.1 _ (List.getElem_mem hkl)
                  rw [← hx] at hok
                  have htk : (ns.take (k + 1)).flatMap (nodeW (placeL ns a0)) = (ns.take k).flatMap (nodeW (placeL ns a0)) ++ (headW x :: (x.ps.map (pointW (placeL ns a0)) ++ wordsW x.bs)) := by
                    rw [hx, take_snoc ns k hkl, List.flatMap_append]
                    simp [nodeW]
                  have hpc : headW x = packH (x.ps.length : Int) (x.bs.length : Int) false 0 := rfl
                  obtain ⟨hw0, hhw⟩ : ∃ h, h = headW x := ⟨_, rfl⟩
                  rw [← hhw] at htk hpc
                  have hBw : B4 ≤ wr.heap.size := Nat.le_trans HP4.out.2.2.2.2.2.1 hS.out.2.size
                  obtain ⟨xA, xc, xD, xd, xps, xbs⟩ := x
                  unfold Nv.vp at hc2
                  unfold Nv.vd at hc3
                  simp only at hc2 hc3 htk hok hpc
                  obtain ⟨nx, hnx⟩ : ∃ z, z = xps.length := ⟨_, rfl⟩
                  obtain ⟨mx, hmx⟩ : ∃ z, z = xbs.length := ⟨_, rfl⟩
                  have HPk := Lib.hid (fun W => rpack_c (xps.length : Int) (xbs.length : Int) false 0 W)
                  rw [← hpc] at HPk
                  rw [← hnx] at hc2 HPk
                  rw [← hmx] at hc3 HPk
                  obtain ⟨eh, heh⟩ : ∃ e, e = errH (nx : Int) (mx : Int) false 0 := ⟨_, rfl⟩
                  rw [← heh] at HPk
                  clear heh
                  obtain ⟨xs, hxs⟩ : ∃ xs, xs = fr ++ (ns.take k).flatMap (nodeW (placeL ns a0)) := ⟨_, rfl⟩
                  have hxl : xs.length ≤ 8192 := by
                    rw [hxs, List.length_append, nodes_len, HFr.out.2]
                    have h1 := endL_take_le ns k a0
                    have h2 := HA.out.2.2
                    have h3 := endL_add (ns.take k) a0
                    have h4 := HA.out.1
                    omega
                  have hO8 := hS.out.1
                  rw [← hxs] at hO8
                  obtain ⟨A8, c8', e8, _⟩ := hO8.form
                  obtain ⟨L8, hL8⟩ : ∃ L, L = xs.length := ⟨_, rfl⟩
                  rw [← hL8] at e8
                  have HXs := Lib.hid (And.intro hxs (And.intro hxl hL8))
                  have HO8 := Lib.hid hO8
                  have hxs2 : nx ≤ 64 ∧ mx ≤ 1024 := by rw [hnx, hmx]; exact hok.2
                  have n64 : (nx : Int) ≤ 64 := by omega
                  have m64 : (mx : Int) ≤ 1024 := by omega
                  have HN2 := Lib.hid hxs2
                  clear hxs hxl hO8 hL8 hxs2
                  subst e8
                  have HD := Lib.hid (And.intro htk (And.intro hok (And.intro hxat (And.intro hnx (And.intro hmx (And.intro hBw hlt))))))
                  have HO := Lib.hid hS.out
                  subst hA
                  clear hS htk hok hxat hnx hmx hBw hlt hx hkl hadl hhw hpc hk
                  go_wp2_with fail
                  obtain ⟨Hb, hHb⟩ : ∃ H, H = wr.heap.size := ⟨_, rfl⟩
                  obtain ⟨w5, hw5⟩ : ∃ W, W = wr.alloc (.cells #[.slice xA nx xc, .slice xD mx xd] 58) := ⟨_, rfl⟩
                  have hbk : Bk w5 Hb 58 #[.slice xA nx xc, .slice xD mx xd] := by rw [hw5, hHb]; exact Bk.new wr _ _
                  have b5 : Below wr.heap.size wr w5 := by rw [hw5]; exact Gw.alloc wr _
                  rw [← hw5, ← hHb]
                  refine Calls.mono (HPk.out w5) ?_
                  rintro r w6 ⟨rfl, b6⟩
                  have b06 := b5.trans (b6.mono b5.size)
                  have hB6 : B4 ≤ wr.heap.size := HD.out.2.2.2.2.2.1
                  have hbk6 := hbk.below b6 hbk.lt
                  have hR : Rd u64v (w6.alloc (.cells #[.int .u64 (U64 hw0)] 57)) (w6.heap.size + 1) (some ⟨w6.heap.size, 0, none⟩) [hw0] := rd1_new rfl
                  have hne : ∀ j, (Value.slice A8 L8 c8').ownBlock = some j → j ≠ Hb := fun j hj e => by have := (HO8.out.lt j hj).2; omega
                  have H6 := Lib.hid (And.intro hbk6 (And.intro (HO8.out.below b06) (And.intro (HO.out.2.trans (b06.mono hB6)) (And.intro hR (And.intro (show B4 ≤ (w6.alloc (.cells #[.int .u64 (U64 hw0)] 57)).heap.size from Nat.le_trans (Nat.le_trans hB6 b06.size) (Gw.alloc w6 _).size) (And.intro hne (show xs.length + [hw0].length ≤ 4294967296 by have := HXs.out.2.1; simp; omega)))))))
                  clear hHb hw5 hbk b5 b6 b06 hbk6 hR hne hB6 q1 hc2 hc3
                  go_wp2_with (at_builtin; refine wp_app one64 u64v_one rfl (.tmp 118) (.tmp 120) rfl B4 _ xs rfl (H6.out.2.1.alloc _) (some ⟨w6.heap.size, 0, none⟩) 1 1 [hw0] rfl rfl (w6.heap.size + 1) H6.out.2.2.2.1 H6.out.2.2.2.2.2.2 (by decide) H6.out.2.2.2.2.1 ?_; intro v7 w7 ho7 hb7 hg7 hj7; have H7 := Lib.hid (And.intro ho7 (And.intro (((H6.out.2.2.1).trans ((Gw.alloc w6 _).mono (Nat.le_trans HP4.out.2.2.2.2.2.1 H6.out.2.2.1.size))).trans hb7) (And.intro ((hg7.block Hb (H6.out.1.alloc _).lt (fun e => H6.out.2.2.2.2.2.1 _ e.symm rfl)).trans (H6.out.1.alloc _)) (show ∀ j, v7.ownBlock = some j → j ≠ Hb from fun j hj e => by rcases hj7 with h | h <;> rw [h] at hj <;> first | exact H6.out.2.2.2.2.2.1 _ hj e | (injection hj with hj; have h1 := H6.out.1.lt; have h2 := (Gw.alloc w6 (.cells #[.int .u64 (U64 hw0)] 57)).size; omega))))); clear ho7 hb7 hg7 hj7)
                  have HS2 : Hid (Ow u64v 57 w7 B4 v7 (xs ++ hw0 :: (xps.take 0).map (pointW (placeL ns a0))) ∧ Below B4 w4 w7 ∧ Bk w7 Hb 58 #[.slice xA nx xc, .slice xD mx xd] ∧ ∀ q, v7.ownBlock = some q → q ≠ Hb) := Lib.hid ⟨H7.out.1, H7.out.2.1, H7.out.2.2.1, H7.out.2.2.2⟩
                  clear H7 H6 HPk
                  go_loopw [8, 15] (fun o i W => ∃ j : Nat, i = .int .i64 j ∧ j ≤ nx ∧ Hid (Ow u64v 57 W B4 o (xs ++ hw0 :: (xps.take j).map (pointW (placeL ns a0))) ∧ Below B4 w4 W ∧ Bk W Hb 58 #[.slice xA nx xc, .slice xD mx xd] ∧ ∀ q, o.ownBlock = some q → q ≠ Hb)) (fun _ i _ => nx - (Go.RowKit.intOf i).toNat)
                  case atStart => exact ⟨0, rfl, Nat.zero_le _, HS2⟩
                  case round =>
                    obtain ⟨j, rfl, hj, hS⟩ := hrel
                    clear HS2
                    have j0 : (0 : Int) ≤ (j : Int) := by omega
                    obtain ⟨d1, d2⟩ := hS.out.2.2.1.two
                    obtain ⟨zs, hzs⟩ : ∃ zs, zs = xs ++ hw0 :: (xps.take j).map (pointW (placeL ns a0)) := ⟨_, rfl⟩
                    have hzl : zs.length = L8 + 1 + j := by
                      rw [hzs, List.length_append, List.length_cons, List.length_map, List.length_take, ← HD.out.2.2.2.1, ← HXs.out.2.2, Nat.min_eq_left hj]
                      omega
                    have hO := hS.out.1
                    rw [← hzs] at hO
                    obtain ⟨A9, c9, e9, _⟩ := hO.form
                    obtain ⟨L9, hL9⟩ : ∃ L, L = zs.length := ⟨_, rfl⟩
                    rw [← hL9] at e9
                    have HZ := Lib.hid (And.intro hO (And.intro hzs (And.intro hzl (And.intro hS.out.2.1 (And.intro hS.out.2.2.1 (And.intro (e9 ▸ hS.out.2.2.2) hj))))))
                    subst e9
                    clear hO hzs hzl hL9
                    by_cases hlt : j < nx
                    · have j1 : (j : Int) < (nx : Int) := by omega
                      have hjl : j < xps.length := by rw [← HD.out.2.2.2.1]; exact hlt
                      obtain ⟨p, hp⟩ : ∃ p, p = xps[j] := ⟨_, rfl⟩
                      have hpk := okP_iff.1 (HD.out.2.1.1 _ (List.getElem_mem hjl))
                      rw [← hp] at hpk
                      obtain ⟨ad3, hA3, had3, hc9⟩ := (HD.out.2.2.1.p.below hS.out.2.1).at_ hjl
                      rw [← hp] at hc9
                      unfold iV at hc9
                      have hA3 : xA = some ad3 := hA3
                      have htk2 : (xps.take (j + 1)).map (pointW (placeL ns a0)) = (xps.take j).map (pointW (placeL ns a0)) ++ [pointW (placeL ns a0) p] := by
                        rw [take_snoc xps j hjl, List.map_append, hp]
                        rfl
                      have HPt := Lib.hid (fun W (hb : Below B4 w4 W) => point_c W Ap cp (placeL ns a0) (((HP4.out.1.below hb).more (Nat.le_trans HP4.out.2.2.2.2.2.1 hb.size))) p hpk.1 (by rw [HP5.out.2.1, HN.out.1]; exact hpk.2) (by rw [HP5.out.2.1]; omega) (fun x hx => by have h := placeL_lt ns a0 x hx; have := HA.out.2.2; omega))
                      rw [HP5.out.2.1] at HPt
                      have HTk := Lib.hid (And.intro htk2 hlt)
                      clear hS hpk hp htk2 hlt hj had3 hjl
                      subst hA3
                      go_wp2_with fail
                      refine Calls.mono (HPt.out wr HZ.out.2.2.2.1) ?_
                      rintro r w9 ⟨rfl, b9⟩
                      obtain ⟨pw, hpw⟩ : ∃ y, y = pointW (placeL ns a0) p := ⟨_, rfl⟩
                      rw [← hpw]
                      have hB8 : B4 ≤ wr.heap.size := Nat.le_trans HP4.out.2.2.2.2.2.1 HZ.out.2.2.2.1.size
                      have hR : Rd u64v (w9.alloc (.cells #[.int .u64 (U64 pw)] 57)) (w9.heap.size + 1) (some ⟨w9.heap.size, 0, none⟩) [pw] := rd1_new rfl
                      have H9 := Lib.hid (And.intro (HZ.out.1.below b9) (And.intro (HZ.out.2.2.2.1.trans (b9.mono hB8)) (And.intro hR (And.intro (show zs.length + [pw].length ≤ 4294967296 by rw [HZ.out.2.2.1, HXs.out.2.2]; have := HXs.out.2.1; have := HN2.out; have := HZ.out.2.2.2.2.2.2; simp; omega) (And.intro (show B4 ≤ (w9.alloc (.cells #[.int .u64 (U64 pw)] 57)).heap.size from Nat.le_trans (Nat.le_trans hB8 b9.size) (Gw.alloc w9 _).size) (And.intro hpw (HZ.out.2.2.2.2.1.below b9 HZ.out.2.2.2.2.1.lt)))))))
                      clear b9 hR hB8 hpw d1 d2 hc9
                      go_wp2_with (at_builtin; refine wp_app one64 u64v_one rfl (.tmp 129) (.tmp 137) rfl B4 _ zs rfl (H9.out.1.alloc _) (some ⟨w9.heap.size, 0, none⟩) 1 1 [pw] rfl rfl (w9.heap.size + 1) H9.out.2.2.1 H9.out.2.2.2.1 (by decide) H9.out.2.2.2.2.1 ?_; intro v10 w10 ho10 hb10 hg10 hj10; have H10 := Lib.hid (And.intro ho10 (And.intro ((H9.out.2.1.trans ((Gw.alloc w9 _).mono (Nat.le_trans HP4.out.2.2.2.2.2.1 H9.out.2.1.size))).trans hb10) (And.intro ((hg10.block Hb (H9.out.2.2.2.2.2.2.alloc _).lt (fun e => HZ.out.2.2.2.2.2.1 _ e.symm rfl)).trans (H9.out.2.2.2.2.2.2.alloc _)) (show ∀ j, v10.ownBlock = some j → j ≠ Hb from fun j hj e => by rcases hj10 with h | h <;> rw [h] at hj <;> first | exact HZ.out.2.2.2.2.2.1 _ hj e | (injection hj with hj; have h1 := H9.out.2.2.2.2.2.2.lt; have h2 := (Gw.alloc w9 (.cells #[.int .u64 (U64 pw)] 57)).size; omega))))); clear ho10 hb10 hg10 hj10)
                      go_roundw
                      case rel =>
                        refine ⟨j + 1, by go_num, HTk.out.2, Lib.hid ⟨?_, H10.out.2.1, H10.out.2.2.1, H10.out.2.2.2⟩⟩
                        have h := H10.out.1
                        rw [HZ.out.2.1, H9.out.2.2.2.2.2.1, List.append_assoc, List.cons_append, ← HTk.out.1] at h
                        exact h
                      case measure => simp [Go.RowKit.intOf]; have := HTk.out.2; omega
                    · have j1 : ¬ (j : Int) < (nx : Int) := by omega
                      have hjn : j = nx := by omega
                      have hz2 : zs = xs ++ hw0 :: xps.map (pointW (placeL ns a0)) := by
                        rw [HZ.out.2.1, hjn, HD.out.2.2.2.1, List.take_length]
                      have HRw := Lib.hid (fun W (hb : Below B4 w4 W) => rwd_c W xD xd xbs ((HD.out.2.2.1.b.below hb).more (Nat.le_trans HP4.out.2.2.2.2.2.1 hb.size)) (by have h : xbs.length ≤ 1024 := HD.out.2.1.2.2; omega))
                      rw [← HD.out.2.2.2.2.1] at HRw
                      have HZ2 := Lib.hid hz2
                      clear hS hz2 hjn hlt hj
                      go_wp2_with fail
                      refine Calls.mono (HRw.out wr HZ.out.2.2.2.1) ?_
                      rintro r w9 ⟨Aw, cw, rfl, _, how, b9⟩
                      have hyl : (wordsW xbs).length ≤ 200 := by rw [wordsW_len]; have h : xbs.length ≤ 1024 := HD.out.2.1.2.2; omega
                      obtain ⟨ys, hys⟩ : ∃ ys, ys = wordsW xbs := ⟨_, rfl⟩
                      rw [← hys] at how hyl ⊢
                      have hrd := how.rd
                      obtain ⟨n2, hn2⟩ : ∃ n, n = ys.length := ⟨_, rfl⟩
                      rw [← hn2]
                      have hB8 : B4 ≤ wr.heap.size := Nat.le_trans HP4.out.2.2.2.2.2.1 HZ.out.2.2.2.1.size
                      have H9 := Lib.hid (And.intro (HZ.out.1.below b9) (And.intro (HZ.out.2.2.2.1.trans (b9.mono hB8)) (And.intro hrd (And.intro (show zs.length + ys.length ≤ 4294967296 by rw [HZ.out.2.2.1, HXs.out.2.2]; have := HXs.out.2.1; have := HN2.out; have := HZ.out.2.2.2.2.2.2; omega) (And.intro (Nat.le_trans hB8 b9.size) (And.intro hn2 hys))))))
                      clear how b9 hyl hrd hB8 hys hn2 d2 d1
                      go_wp2_with (at_builtin; refine wp_app one64 u64v_one rfl (.tmp 139) (.tmp 142) rfl B4 _ zs rfl H9.out.1 Aw n2 cw ys rfl H9.out.2.2.2.2.2.1 w9.heap.size H9.out.2.2.1 H9.out.2.2.2.1 (by decide) H9.out.2.2.2.2.1 ?_; intro v10 w10 ho10 hb10 hg10 hj10; have H10 := Lib.hid (And.intro ho10 (H9.out.2.1.trans hb10)); clear ho10 hb10 hg10 hj10)
                      go_roundw
                      case rel =>
                        refine ⟨k + 1, by go_num, HD.out.2.2.2.2.2.2, Lib.hid ⟨?_, H10.out.2⟩⟩
                        have h := H10.out.1
                        rw [HZ2.out, H9.out.2.2.2.2.2.2, HXs.out.1] at h
                        rw [HD.out.1]
                        simpa only [List.append_assoc, List.cons_append] using h
                      case measure => simp [Go.RowKit.intOf]; have := HD.out.2.2.2.2.2.2; omega
                · have k1 : ¬ (k : Int) < (N : Int) := by omega
                  have hkN : k = N := by omega
                  have hst := hS.out
                  rw [hkN, List.take_of_length_le (by rw [← HN.out.1]; exact Nat.le_refl _)] at hst
                  have HR := Lib.hid hst
                  clear hS hst
                  go_wp2_with fail
                  rw [HE.out]
                  refine .inr ⟨HEr.out.symm, by have := HA.out.2.2; rw [HA.out.1, HN.out.2] at this; exact this, _, rfl, ?_, HP4.out.2.2.2.2.1.trans (HR.out.2.mono HP4.out.2.2.2.2.2.2)⟩
                  have h := HR.out.1
                  rw [HFr.out.1] at h
                  have e : encW ns rs = frontW M a ++ rs.flatMap (rootW (placeL ns a0)) ++ ns.flatMap (nodeW (placeL ns a0)) := by
                    unfold encW
                    rw [← HN.out.2, ← HA.out.1, ← HP5.out.1]
                  show Ow u64v 57 _ w.heap.size _ (encW ns rs)
                  rw [e]
                  exact ⟨h.1, h.2.imp id (fun ⟨g, cap, cur, e, hb, r⟩ => ⟨g, cap, cur, e, Nat.le_trans HP4.out.2.2.2.2.2.2 hb, r⟩)⟩
  · have e1 : (er != 0) = true := by simpa using he
    have HEn := Lib.hid he
    clear he
    go_wp2_with fail
    rw [HE.out]
    have e3 : errG ⟨A, ca, A2, ca2, ns, rs⟩ = er := by
      unfold errG
      rw [if_neg (by rw [← HEr.out]; exact HEn.out), ← HEr.out]
    exact .inl ⟨by rw [e3]; exact HEn.out, by rw [e3]; rfl, H2.out.2⟩
end Go.Proofs.Ytkkjnahjmomjgaa
/- image.Need, image.base, image.putRoot. Conditions: lengths. -/
namespace Go.Proofs.Ytkkjnahjmomjgaa
set_option linter.unusedVariables false
set_option linter.unusedSimpArgs false
open Go.RowKit Go.Maps
set_option maxHeartbeats 4000000
set_option maxRecDepth 100000
theorem ibase_c (R : Nat) (hR : R ≤ 1000000) (w : World) : Calls Try.prog 25 #[.int .i64 (R : Int)] w (RetP (.int .i64 ((2 + 5 * R : Nat) : Int)) w) := by
  obtain ⟨q, hq⟩ : ∃ q, q = 2 + 5 * R := ⟨_, rfl⟩
  rw [← hq]
  obtain ⟨m, hm⟩ : ∃ m, m = 5 * R := ⟨_, rfl⟩
  have q1 : 5 * (R : Int) = (m : Int) := by omega
  have q2 : 2 + (m : Int) = (q : Int) := by omega
  have q3 : (q : Int) ≤ 6000000 := by omega
  have q4 : (m : Int) ≤ 6000000 := by omega
  have q5 : (R : Int) ≤ 1000000 := by omega
  clear hq hm hR
  go_enter Try.func25, Try.ntmps25
  go_wp2_with fail
  go_ret
  exact ⟨rfl, Below.refl _ _⟩
theorem small_words {g : Gv} (h : g.Small) : 0 ≤ wordsL g.n ∧ wordsL g.n ≤ 300000000 := by
  have h1 := wordsL_le g.n
  have h2 := h.1
  omega
theorem ind1 (Q : Exit → Act → World → Prop) (a0 : Act) (w : World) (G N M c c2 : Nat) (A A2 : Option Addr) (z : Int) (hGl : G < w.heap.size) (g0 : w.cell? ⟨G, 0, none⟩ = some (.slice A N c)) (g1 : w.cell? ⟨G, 1, none⟩ = some (.slice A2 M c2)) (b0 : Nat) (hb0 : (b0 : Int) ≤ 6000000) (hbs : Hid (∀ W, Calls Try.prog 25 #[.int .i64 (M : Int)] W (RetP (.int .i64 (b0 : Int)) W))) (z0 : 0 ≤ z) (z1 : z ≤ 300000000) (hw : Hid (∀ W, Below w.heap.size w W → Calls Try.prog 36 #[.agg #[.slice A N c, .slice A2 M c2]] W (RetP (.int .i64 z) W))) (hsz : a0.tmps.size = 10) (sl1 : a0.tmps.getD 1 undef = .pointer (some ⟨G, 0, none⟩))
    (fin : ∀ (vals : Nat → Value) (w1 : World), Below w.heap.size w w1 → (IsV (.int .i64 ((b0 : Int) + z))) (vals 7) w1 → Q .normal (putD vals [3, 4, 5, 6, 7, 8, 9, 2] 0 a0) w1) :
    (Code.region 1 (regIn Try.f14 1) true).wp Try.prog Q a0 w := by
  refine region_by (G := fun w w1 => Below w.heap.size w w1) [IsV (.pointer (some ⟨G, 1, none⟩)),
    IsV (.slice A2 M c2),
    IsV (.int .i64 (M : Int)),
    IsV (.int .i64 (b0 : Int)),
    IsV (.agg #[.slice A N c, .slice A2 M c2]),
    IsV (.int .i64 z),
    IsV (.int .i64 ((b0 : Int) + z)),
    IsV (.int .i64 ((b0 : Int) + z))]
    [3, 4, 5, 6, 7, 8, 9, 2] (by kernel_rfl) (Gw.drew _) Gw.trans (by rw [hsz]; kernel_rfl) (by kernel_rfl) ?_ ?_ ?_
  · intro f hf
    simp only [List.mem_cons, List.not_mem_nil, or_false] at hf
    rcases hf with rfl | rfl | rfl | rfl | rfl | rfl | rfl | rfl <;> intro v a b h g <;> first | exact IsV.mono h
  · refine ⟨?_, ?_, ?_, ?_, ?_, ?_, ?_, ?_, trivial⟩
    · refine owes_v (Go.Op.fieldAddr 25 (Go.Operand.tmp 1) 1) 0 [] (by kernel_rfl) (by kernel_rfl) (by kernel_rfl) rfl fun vals w1 ρ hG hF hρ hcst hfun => ?_
      have e1 : ρ (.tmp 1) = .pointer (some ⟨G, 0, none⟩) := ((hρ 1).trans (slotO [] (by kernel_rfl))).trans sl1
      clear hρ hF hcst hfun sl1 fin
      exact opv_val (by go_simp <;> rfl) ⟨gw_self _, rfl⟩
    · refine owes_v (Go.Op.load 23 (Go.Operand.tmp 3)) 23 [0] (by kernel_rfl) (by kernel_rfl) (by kernel_rfl) rfl fun vals w1 ρ hG hF hρ hcst hfun => ?_
      have e3 : ρ (.tmp 3) = .pointer (some ⟨G, 1, none⟩) := ((hρ 3).trans (slotJ [0] (by rw [hsz]; decide) (by kernel_rfl))).trans (hF 0 (by decide))
      have kk := (hG.cell (p := ⟨G, 1, none⟩) hGl).trans g1
      clear hρ hF hcst hfun sl1 fin
      exact opv_val (by go_simp <;> rfl) ⟨gw_self _, rfl⟩
    · refine owes_v (Go.Op.call { callee := Go.Callee.builtin Go.Builtin.len, args := #[Go.Operand.tmp 4], argTypes := #[23] }) 3 [1] (by kernel_rfl) (by kernel_rfl) (by kernel_rfl) rfl fun vals w1 ρ hG hF hρ hcst hfun => ?_
      have e4 : ρ (.tmp 4) = .slice A2 M c2 := ((hρ 4).trans (slotJ [1] (by rw [hsz]; decide) (by kernel_rfl))).trans (hF 1 (by decide))
      clear hρ hF hcst hfun sl1 fin
      exact opv_val (by go_simp <;> rfl) ⟨gw_self _, rfl⟩
    · refine owes_v (Go.Op.call { callee := Go.Callee.value (Go.Operand.func 25), args := #[Go.Operand.tmp 5], argTypes := #[3] }) 3 [2] (by kernel_rfl) (by kernel_rfl) (by kernel_rfl) rfl fun vals w1 ρ hG hF hρ hcst hfun => ?_
      have e5 : ρ (.tmp 5) = .int .i64 (M : Int) := ((hρ 5).trans (slotJ [2] (by rw [hsz]; decide) (by kernel_rfl))).trans (hF 2 (by decide))
      clear hρ hF hcst sl1 fin
      exact opv_enter (by go_simp <;> rfl) (of_ret (hbs.out w1))
    · refine owes_v (Go.Op.load 25 (Go.Operand.tmp 1)) 25 [] (by kernel_rfl) (by kernel_rfl) (by kernel_rfl) rfl fun vals w1 ρ hG hF hρ hcst hfun => ?_
      have e1 : ρ (.tmp 1) = .pointer (some ⟨G, 0, none⟩) := ((hρ 1).trans (slotO [] (by kernel_rfl))).trans sl1
      have k0 := (hG.cell (p := ⟨G, 0, none⟩) hGl).trans g0; have k1 := (hG.cell (p := ⟨G, 1, none⟩) hGl).trans g1
      clear hρ hF hcst hfun sl1 fin
      exact opv_val (by go_simp <;> rfl) ⟨gw_self _, rfl⟩
    · refine owes_v (Go.Op.call { callee := Go.Callee.value (Go.Operand.func 36), args := #[Go.Operand.tmp 7], argTypes := #[25] }) 3 [4] (by kernel_rfl) (by kernel_rfl) (by kernel_rfl) rfl fun vals w1 ρ hG hF hρ hcst hfun => ?_
      have e7 : ρ (.tmp 7) = .agg #[.slice A N c, .slice A2 M c2] := ((hρ 7).trans (slotJ [4] (by rw [hsz]; decide) (by kernel_rfl))).trans (hF 4 (by decide))
      clear hρ hF hcst sl1 fin
      exact opv_enter (by go_simp <;> rfl) (of_ret (hw.out w1 hG))
    · refine owes_v (Go.Op.binOp Go.BinOp.add 3 (Go.Operand.tmp 6) (Go.Operand.tmp 8) 3) 3 [3, 5] (by kernel_rfl) (by kernel_rfl) (by kernel_rfl) rfl fun vals w1 ρ hG hF hρ hcst hfun => ?_
      have e6 : ρ (.tmp 6) = .int .i64 (b0 : Int) := ((hρ 6).trans (slotJ [3, 5] (by rw [hsz]; decide) (by kernel_rfl))).trans (hF 3 (by decide))
      have e8 : ρ (.tmp 8) = .int .i64 z := ((hρ 8).trans (slotJ [3, 5] (by rw [hsz]; decide) (by kernel_rfl))).trans (hF 5 (by decide))
      have kw0 : IntKind.i64.wrap (((b0 : Int) + z)) = ((b0 : Int) + z) := wrapIn (by omega) (by omega)
      clear hρ hF hcst hfun sl1 fin
      exact opv_val (by go_simp <;> rfl) ⟨gw_self _, rfl⟩
    · exact owes_mvj 6 9 (by kernel_rfl) (by kernel_rfl) (by kernel_rfl) (by kernel_rfl) (by rw [hsz]; decide) (fun v w h => h)
  · intro vals w1 hG hF
    exact fin vals w1 hG (hF 7 (by decide +kernel))
theorem ineed_c (w : World) (g : Gv) (hg : g.At w w.heap.size) (hs : g.Small) : Calls Try.prog 14 #[g.v] w (RetP (.int .i64 (((2 + 5 * g.r.length : Nat) : Int) + wordsL g.n)) w) := by
  have HW := Lib.hid (fun W (b : Below w.heap.size w W) => gwords_c W g (hg.up b) hs)
  obtain ⟨z0, z1⟩ := small_words hs
  obtain ⟨z, hz⟩ : ∃ z, z = wordsL g.n := ⟨_, rfl⟩
  rw [← hz] at HW z0 z1 ⊢
  have hM := hs.2.1
  obtain ⟨A, ca, A2, ca2, ns, rs⟩ := g
  obtain ⟨N, hN⟩ : ∃ N, N = ns.length := ⟨_, rfl⟩
  obtain ⟨M, hMM⟩ : ∃ M, M = rs.length := ⟨_, rfl⟩
  unfold Gv.v Gv.vn Gv.vr at HW ⊢
  simp only at HW hM ⊢
  rw [← hMM] at HW hM ⊢
  rw [← hN] at HW ⊢
  have HBs := Lib.hid (fun W => ibase_c M hM W)
  obtain ⟨b0, hb0⟩ : ∃ b0, b0 = 2 + 5 * M := ⟨_, rfl⟩
  rw [← hb0] at HBs ⊢
  have hbI : (b0 : Int) ≤ 6000000 := by omega
  clear hg hs hz hN hMM hM hb0
  go_enter Try.func14, Try.ntmps14
  go_wp2_with fail
  obtain ⟨G, hG⟩ : ∃ G, G = w.heap.size := ⟨_, rfl⟩
  obtain ⟨w1, hw1⟩ : ∃ W, W = w.alloc (.cells #[.slice A N ca, .slice A2 M ca2] 25) := ⟨_, rfl⟩
  have hbk : Bk w1 G 25 #[.slice A N ca, .slice A2 M ca2] := by rw [hw1, hG]; exact Bk.new w _ _
  have b1 : Below w.heap.size w w1 := by rw [hw1]; exact Gw.alloc w _
  rw [← hw1, ← hG]
  have HW1 := Lib.hid (fun W (b : Below w1.heap.size w1 W) => HW.out W (b1.trans (b.mono b1.size)))
  have hGl := hbk.lt
  have H1 := Lib.hid b1
  obtain ⟨g0, g1⟩ := hbk.two
  clear hw1 hG hbk b1 HW
  refine ind1 _ _ _ G N M ca ca2 A A2 z hGl g0 g1 b0 hbI HBs z0 z1 (Lib.hid (fun W b => (HW1.out W b).mono fun r w' h => h)) rfl ?_ ?_
  · rfl
  intro vals w2 hG2 h2
  unfold IsV at h2
  simp only [putD, Act.put, List.setIfInBounds_toArray, List.set_cons_zero, List.set_cons_succ, h2]
  have H2 := Lib.hid (H1.out.trans (hG2.mono H1.out.size))
  clear hG2 h2
  go_wp2_with fail
  go_ret
  exact ⟨rfl, H2.out⟩
/-- What places[p] and 1 are. -/
theorem point_val (ns : List Nv) (b : Nat) (p : Int) (h : okP ns.length p = true) (hb : endL ns b ≤ 8192) : (0 ≤ p ∧ p ≤ (ns.length : Int)) ∧ ∃ (h2 : p.toNat < (plI ns b).length) (y : Nat), (plI ns b)[p.toNat] = (y : Int) - 1 ∧ y ≤ 8192 ∧ U64 (pointW (placeL ns b) p) = (y : Int) := by
  by_cases h0 : p = 0
  · subst h0
    exact ⟨by omega, by rw [plI_len]; show 0 < _; omega, 0, rfl, by omega, rfl⟩
  · have hh : 1 ≤ p ∧ p ≤ (ns.length : Int) := by
      unfold okP hasG at h
      simpa [h0] using h
    have hk : p.toNat - 1 < ns.length := by omega
    have e := plI_at ns b (p.toNat - 1) hk
    rw [show p.toNat - 1 + 1 = p.toNat from by omega] at e
    obtain ⟨hl, he⟩ := List.getElem?_eq_some_iff.1 e
    have hpl := placeL_at ns b (p.toNat - 1) hk
    have hm : endL (ns.take (p.toNat - 1)) b ∈ placeL ns b := by
      rw [← hpl, List.getD_eq_getElem?_getD, List.getElem?_eq_getElem (by rw [placeL_len]; exact hk)]
      exact List.getElem_mem _
    have hlt := placeL_lt ns b _ hm
    refine ⟨⟨by omega, hh.2⟩, hl, endL (ns.take (p.toNat - 1)) b + 1, by rw [he]; omega, by omega, ?_⟩
    unfold pointW
    rw [if_neg h0, hpl]
    exact ofNat_U64 _ (by omega)
end Go.Proofs.Ytkkjnahjmomjgaa
/- image.read. Conditions: at most 8192 words. -/
namespace Go.Proofs.Ytkkjnahjmomjgaa
set_option linter.unusedVariables false
set_option linter.unusedSimpArgs false
open Go.RowKit Go.Maps
set_option maxHeartbeats 8000000
set_option maxRecDepth 100000
/-- Words that are no graph's. -/
def BadW (ws : List (BitVec 64)) : Prop := ∀ g : Gv, ckG g = 0 → endL g.n (2 + 5 * g.r.length) ≤ 8192 → encW g.n g.r ≠ ws
def nR (ws : List (BitVec 64)) : Nat := (ws.getD 1 0#64).toNat % 65536
theorem objF_of (ws : List (BitVec 64)) (top : Nat) : ∀ (n a : Nat) (l : List Nat), foundN ws top n a = (l, none) → objF ws top n a = some l
  | 0, a, l, h => by
    have h : (([] : List Nat), (none : Option Nat)) = (l, none) := h
    injection h with h
    rw [← h]
    rfl
  | n + 1, a, l, h => by
    have e : objF ws top (n + 1) a = if a < top then (if goodX (ws.getD a 0#64) (top - a) = true then (objF ws top n (a + szX (ws.getD a 0#64))).map (a :: ·) else none) else some [] := rfl
    rw [e]
    unfold foundN at h
    by_cases h1 : a < top
    · rw [if_pos h1] at h ⊢
      by_cases h2 : goodX (ws.getD a 0#64) (top - a) = true
      · rw [if_pos h2] at h ⊢
        injection h with h3 h4
        rw [objF_of ws top n _ (foundN ws top n (a + szX (ws.getD a 0#64))).1 (by rw [← h4])]
        rw [← h3]
        rfl
      · rw [if_neg h2] at h
        injection h with _ h4
        cases h4
    · rw [if_neg h1] at h ⊢
      injection h with h3
      rw [← h3]
/-- What an image of a graph has, as read finds it. -/
theorem enc_read {g : Gv} (h : ckG g = 0) (ht : endL g.n (2 + 5 * g.r.length) ≤ 8192) : 2 ≤ (encW g.n g.r).length ∧ nR (encW g.n g.r) = g.r.length ∧ 2 + 5 * g.r.length ≤ (encW g.n g.r).length ∧ objF (encW g.n g.r) (encW g.n g.r).length ((encW g.n g.r).length + 1) (2 + 5 * g.r.length) = some (placeL g.n (2 + 5 * g.r.length)) ∧ (placeL g.n (2 + 5 * g.r.length)).all (wellN (encW g.n g.r) (placeL g.n (2 + 5 * g.r.length))) = true := by
  obtain ⟨h1, h2, h3⟩ := ckG_ok h
  have hlen := encW_len g.n g.r (fun r hr => (goodS_size (h3 r hr).1).2)
  have hge := endL_ge g.n (2 + 5 * g.r.length)
  obtain ⟨f1, f2⟩ := enc_found h1 h3 ht
  refine ⟨by omega, ?_, by omega, objF_of _ _ _ _ _ f1, (allE_nil _ _ _).1 f2⟩
  have e : (encW g.n g.r).getD 1 0#64 = BitVec.ofNat 64 (g.r.length + endL g.n (2 + 5 * g.r.length) * 65536) := rfl
  unfold nR
  rw [e, BitVec.toNat_ofNat]
  omega
theorem field_nR (x : BitVec 64) : U64 (fieldB x 0 16) = ((x.toNat % 65536 : Nat) : Int) := by
  unfold fieldB
  rw [if_pos (by decide)]
  have e : x >>> (0 : Int).toNat = x := by
    show x >>> (0 : Nat) = x
    exact BitVec.ushiftRight_zero _
  rw [e]
  unfold U64
  rw [BitVec.toNat_and, lowB_nat 16 (by decide) (by decide)]
  show ((x.toNat &&& (2 ^ 16 - 1) : Nat) : Int) = _
  rw [Nat.and_two_pow_sub_one_eq_mod]
def ReadP (w : World) (ws : List (BitVec 64)) (r : Ending) (w' : World) : Prop :=
  (∃ er : Int, er ≠ 0 ∧ r = .returned (.tuple #[.agg #[.slice none 0 0, .slice none 0 0], .int .i64 er]) ∧ Below w.heap.size w w' ∧ BadW ws) ∨
  (∃ (g : Gv) (l : List Nat), r = .returned (.tuple #[g.v, .int .i64 0]) ∧ g.At w' w'.heap.size ∧ objF ws ws.length (ws.length + 1) (2 + 5 * nR ws) = some l ∧ g.n.map normN = l.map (dNode ws l) ∧ g.r = (List.range (nR ws)).map (dRoot ws l) ∧ 2 + 5 * nR ws ≤ ws.length ∧ Below w.heap.size w w' ∧ NOwn w' w.heap.size g.vn g.n ∧ ROwn w' w.heap.size g.vr g.r)
theorem read_c (w : World) (A : Option Addr) (c : Nat) (ws : List (BitVec 64)) (hr : Rd u64v w w.heap.size A ws) (h8 : ws.length ≤ 8192) :
    Calls Try.prog 38 #[.slice A ws.length c] w (ReadP w ws) := by
  obtain ⟨E, hE⟩ : ∃ E, E = ReadP w ws := ⟨_, rfl⟩
  rw [← hE]
  have HE := Lib.hid hE
  obtain ⟨n, hn⟩ : ∃ n, n = ws.length := ⟨_, rfl⟩
  have nI : (n : Int) ≤ 8192 := by omega
  have n0 : (0 : Int) ≤ (n : Int) := by omega
  have HX := Lib.hid (And.intro hn (And.intro h8 hr))
  by_cases h2 : n < 2
  · have k2 : (n : Int) < 2 := by omega
    have HBad := Lib.hid (show BadW ws from fun g g1 g2 e => by have := (enc_read g1 g2).1; rw [e] at this; omega)
    rw [← hn]
    clear hE hr hn h8 h2
    go_enter Try.func38, Try.ntmps38
    go_wp2_with fail
    obtain ⟨Rb, hRb⟩ : ∃ R, R = w.heap.size := ⟨_, rfl⟩
    obtain ⟨V, hV⟩ : ∃ V, V = w.alloc (.cells #[.slice none 0 0, .slice none 0 0] 25) := ⟨_, rfl⟩
    have kR : Bk V Rb 25 #[.slice none 0 0, .slice none 0 0] := by rw [hV, hRb]; exact Bk.new w _ _
    have kB : Below w.heap.size w V := by rw [hV]; exact Gw.alloc w _
    have hl := run_loadVar_row (P := Try.prog) V Rb 25 25 #[.slice none 0 0, .slice none 0 0] (0, 0) _ kR Try.underlying25 rfl (by kernel_rfl)
    rw [← hRb, ← hV]
    refine bodyPost_ret (res2 (p := 2) (u := 3) (by kernel_rfl) hl rfl rfl) rfl ?_
    rw [HE.out]
    exact .inl ⟨2, by decide, rfl, kB, HBad.out⟩
  · have k2 : ¬ (n : Int) < 2 := by omega
    obtain ⟨ad, rfl, hadl, hc1⟩ := hr 1 (by omega)
    obtain ⟨x, hx⟩ : ∃ x, x = ws[1] := ⟨_, rfl⟩
    rw [← hx] at hc1
    have hxe : ws.getD 1 0#64 = x := by rw [hx, List.getD_eq_getElem?_getD, List.getElem?_eq_getElem (by omega)]; rfl
    obtain ⟨R, hR⟩ : ∃ R, R = nR ws := ⟨_, rfl⟩
    have hRx : U64 (fieldB x 0 16) = (R : Int) := by rw [field_nR, ← hxe]; rw [hR]; rfl
    have hR6 : R < 65536 := by rw [hR]; unfold nR; exact Nat.mod_lt _ (by decide)
    have HFi := Lib.hid (fun W => field_c x 0 16 W)
    rw [hRx] at HFi
    have HOf := Lib.hid (fun W (b : Below w.heap.size w W) => of_in W (some ad) c ws ((hr.below b).more b.size) h8)
    rw [← hn] at HOf ⊢
    have HBs := Lib.hid (ibase_c R (by omega))
    obtain ⟨b, hb⟩ : ∃ b, b = 2 + 5 * R := ⟨_, rfl⟩
    rw [← hb] at HBs
    have RI : (R : Int) ≤ 65535 := by omega
    have R0 : (0 : Int) ≤ (R : Int) := by omega
    have bI : (b : Int) ≤ 400000 := by omega
    have n1 : (1 : Int) < (n : Int) := by omega
    obtain ⟨xv, hxv⟩ : ∃ xv, xv = U64 x := ⟨_, rfl⟩
    have hc1' : w.cell? ⟨ad.block, ad.off + 1, none⟩ = some (.int .u64 xv) := by rw [hxv]; exact hc1
    rw [← hxv] at HFi
    have HY := Lib.hid (And.intro hR (And.intro hb hR6))
    have hadl' : ad.block < w.heap.size := hadl
    clear hE hr hn h8 h2 hx hxe hRx hR hb hR6 hc1 hxv hadl
    go_enter Try.func38, Try.ntmps38
    go_wp2_with fail
    obtain ⟨Rb, hRb⟩ : ∃ R, R = w.heap.size := ⟨_, rfl⟩
    obtain ⟨w1, hw1⟩ : ∃ W, W = w.alloc (.cells #[.slice none 0 0, .slice none 0 0] 25) := ⟨_, rfl⟩
    have hbk : Bk w1 Rb 25 #[.slice none 0 0, .slice none 0 0] := by rw [hw1, hRb]; exact Bk.new w _ _
    have b1 : Below w.heap.size w w1 := by rw [hw1]; exact Gw.alloc w _
    rw [← hw1, ← hRb]
    have HFr := Lib.hid (Nat.le_of_eq hRb.symm)
    have H1 := Lib.hid (And.intro hbk b1)
    clear hw1 hRb hbk b1
    refine Calls.mono (HFi.out w1) ?_
    rintro r w2 ⟨rfl, hb2⟩
    have H2 := Lib.hid (show Bk w2 Rb 25 #[.slice none 0 0, .slice none 0 0] ∧ Below w.heap.size w w2 from ⟨H1.out.1.below (hb2.below _) H1.out.1.lt, H1.out.2.trans (hb2.below _)⟩)
    clear hb2 H1 HFi hc1' hadl'
    go_wp2_with fail
    refine Calls.mono (HOf.out w2 H2.out.2) ?_
    rintro r w3 ⟨m, v, rfl, hm, b3⟩
    have H3 := Lib.hid (show Bk w3 Rb 25 #[.slice none 0 0, .slice none 0 0] ∧ Below w.heap.size w w3 from ⟨H2.out.1.below b3 H2.out.1.lt, H2.out.2.trans (b3.mono H2.out.2.size)⟩)
    have HMm := Lib.hid hm
    clear b3 H2 HOf hm
    go_wp2_with fail
    refine Calls.mono (HBs.out w3) ?_
    rintro r w4 ⟨rfl, b4⟩
    have H4 := Lib.hid (show Bk w4 Rb 25 #[.slice none 0 0, .slice none 0 0] ∧ Below w.heap.size w w4 from ⟨H3.out.1.below b4 H3.out.1.lt, H3.out.2.trans (b4.mono H3.out.2.size)⟩)
    have HM4 := Lib.hid (HMm.out.below b4)
    clear b4 H3 HBs HMm
    by_cases hbn : b ≤ n
    · cases hob : objF ws n (n + 1) b with
      | none =>
        have HBad := Lib.hid (show BadW ws from fun g g1 g2 e => by
          have h := (enc_read g1 g2).2
          rw [e, ← HX.out.1, ← HY.out.1] at h
          have h3 := h.2.2.1
          rw [← h.1, ← HY.out.2.1, hob] at h3
          cases h3)
        have HSo := Lib.hid (sof_none w4 w2.heap.size m v ws b n n HM4.out hbn (Nat.le_refl _) (by rw [← HX.out.1]; exact Nat.le_refl _) (by have := HX.out.2.1; omega) hob)
        clear hob hbn
        go_wp2_with fail
        refine Calls.mono HSo.out ?_
        rintro r w5 ⟨rfl, b5⟩
        have H5 := Lib.hid (show Bk w5 Rb 25 #[.slice none 0 0, .slice none 0 0] ∧ Below w.heap.size w w5 from ⟨H4.out.1.below b5 H4.out.1.lt, H4.out.2.trans (b5.mono H4.out.2.size)⟩)
        clear b5 H4 HSo
        obtain ⟨q0, q1⟩ := H5.out.1.two
        have hRl := H5.out.1.lt
        have hfr0 := H5.out.1.free 0
        have hfr1 := H5.out.1.free 1
        go_wp2_with fail
        obtain ⟨V, hV⟩ : ∃ V, V = ((w5.setCell ⟨Rb, 0, none⟩ (.slice none 0 0)).setCell ⟨Rb, 1, none⟩ (.slice none 0 0)) := ⟨_, rfl⟩
        have kR : Bk V Rb 25 #[.slice none 0 0, .slice none 0 0] := by rw [hV]; exact two_set H5.out.1
        have kB : Below w.heap.size w V := by rw [hV]; exact two_below H5.out.2 HFr.out
        have hl := run_loadVar_row (P := Try.prog) V Rb 25 25 #[.slice none 0 0, .slice none 0 0] (0, 0) _ kR Try.underlying25 rfl (by kernel_rfl)
        rw [← hV]
        clear hV q0 q1 hRl hfr0 hfr1
        refine bodyPost_ret (res2 (p := 2) (u := 3) (by kernel_rfl) hl rfl rfl) rfl ?_
        rw [HE.out]
        exact .inl ⟨2, by decide, rfl, kB, HBad.out⟩
      | some l =>
        have HSo := Lib.hid (sof_some w4 w2.heap.size m v ws b n n HM4.out hbn (Nat.le_refl _) (by rw [← HX.out.1]; exact Nat.le_refl _) (by have := HX.out.2.1; omega) l hob)
        have HOb := Lib.hid (And.intro hob hbn)
        clear hob hbn
        go_wp2_with fail
        refine Calls.mono HSo.out ?_
        rintro r w5 ⟨s, rfl, sp5, b5⟩
        have H5 := Lib.hid (show Bk w5 Rb 25 #[.slice none 0 0, .slice none 0 0] ∧ Below w.heap.size w w5 ∧ SpAt w5 w2.heap.size s m v ws b n n from ⟨H4.out.1.below b5 H4.out.1.lt, H4.out.2.trans (b5.mono H4.out.2.size), sp5⟩)
        clear b5 H4 HSo sp5 HM4
        by_cases hwl : l.all (wellN ws l) = true
        · have HRn := Lib.hid (readNodes_c w5 w2.heap.size s m v ws b n n H5.out.2.2 HX.out.2.1 l HOb.out.1 hwl)
          clear hwl
          go_wp2_with fail
          refine Calls.mono HRn.out ?_
          rintro r w6 ⟨nv, mb, xs, rfl, no6, hxs, mp6, b6⟩
          obtain ⟨nA, nc, enA⟩ := nown_form no6
          obtain ⟨nn, hnn⟩ : ∃ k, k = xs.length := ⟨_, rfl⟩
          rw [← hnn] at enA
          subst enA
          have H6 := Lib.hid (show Bk w6 Rb 25 #[.slice none 0 0, .slice none 0 0] ∧ Below w.heap.size w w6 ∧ MemAt w6 w2.heap.size m v ws ∧ NOwn w6 w5.heap.size (.slice nA nn nc) xs ∧ xs.map normN = l.map (dNode ws l) ∧ MapIs w6 (some mb) (numM l) ∧ nn = xs.length from
            ⟨H5.out.1.below b6 H5.out.1.lt, H5.out.2.1.trans (b6.mono H5.out.2.1.size), (H5.out.2.2.below b6).mem, no6, hxs, mp6, hnn⟩)
          have HRb5 := Lib.hid (H5.out.1.lt)
          have HRw5 := Lib.hid (H5.out.2.1.size)
          clear no6 hxs mp6 b6 hnn H5 HRn
          go_wp2_with fail
          obtain ⟨Gb, hGb⟩ : ∃ G, G = w6.heap.size := ⟨_, rfl⟩
          obtain ⟨wS, hwS⟩ : ∃ W, W = w6.alloc (.cells #[.slice nA nn nc, .slice none 0 0] 25) := ⟨_, rfl⟩
          have hbk : Bk wS Gb 25 #[.slice nA nn nc, .slice none 0 0] := by rw [hwS, hGb]; exact Bk.new w6 _ _
          have b7 : Below w6.heap.size w6 wS := by rw [hwS]; exact Gw.alloc w6 _
          have z7 : wS.heap.size = Gb + 1 := by rw [hwS, hGb]; unfold World.alloc; simp
          rw [← hwS, ← hGb]
          have HSS := Lib.hid (show MemAt wS w2.heap.size m v ws ∧ NOwn wS w5.heap.size (.slice nA nn nc) xs ∧ MapIs wS (some mb) (numM l) ∧ Below w.heap.size w wS ∧ Rb < Gb ∧ wS.heap.size = Gb + 1 from
            ⟨H6.out.2.2.1.below b7, H6.out.2.2.2.1.below b7, H6.out.2.2.2.2.2.1.kept (Kept.of_below b7 (fun _ => False)) (fun _ _ f => f), H6.out.2.1.trans (b7.mono H6.out.2.1.size), by rw [hGb]; exact H6.out.1.lt, z7⟩)
          have HS0 : Hid (∃ rs', Bk wS Gb 25 #[.slice nA nn nc, .slice none 0 0] ∧ Bk wS Rb 25 #[.slice none 0 0, .slice none 0 0] ∧ ROwn wS (Gb + 1) (.slice none 0 0) rs' ∧ rs' = (List.range 0).map (dRoot ws l) ∧ Below w6.heap.size w6 wS) := Lib.hid
            ⟨[], hbk, H6.out.1.below b7 H6.out.1.lt, ROwn.nil _ _, rfl, b7⟩
          have HG := Lib.hid (show w.heap.size ≤ Gb ∧ Gb = w6.heap.size from ⟨by rw [hGb]; exact H6.out.2.1.size, hGb⟩)
          clear hwS hGb hbk b7 z7
          go_loopw [60] (fun x W => ∃ k : Nat, x = .int .i64 k ∧ k ≤ R ∧ Hid (∃ rv rs', Bk W Gb 25 #[.slice nA nn nc, rv] ∧ Bk W Rb 25 #[.slice none 0 0, .slice none 0 0] ∧ ROwn W (Gb + 1) rv rs' ∧ rs' = (List.range k).map (dRoot ws l) ∧ Below w6.heap.size w6 W ∧ Rb ≠ Gb)) (fun x _ => R - (Go.RowKit.intOf x).toNat)
          case atStart =>
            obtain ⟨rs', k1, k2', k3, k4, k5⟩ := HS0.out
            exact ⟨0, rfl, Nat.zero_le _, Lib.hid ⟨_, rs', k1, k2', k3, k4, k5, by have := HSS.out.2.2.2.2.1; omega⟩⟩
          case round =>
            obtain ⟨k, rfl, hk, hS⟩ := hrel
            clear HS0
            have p0 : (0 : Int) ≤ (k : Int) := by omega
            obtain ⟨rv, rs', e1, e2, e3, e4, e5, e6⟩ := hS.out
            by_cases hlt : k < R
            · have p1 : (k : Int) < (R : Int) := by omega
              have HBk := Lib.hid (fun W => ibase_c k (by omega) W)
              obtain ⟨a, ha⟩ : ∃ a, a = 2 + 5 * k := ⟨_, rfl⟩
              rw [← ha] at HBk
              have hal : a + 4 < ws.length := by have h1 := HOb.out.2; have h2 := HY.out.2.1; have h3 := HX.out.1; omega
              have HRr := Lib.hid (fun W (b : Below w6.heap.size w6 W) => readRoot_c W w2.heap.size m mb v ws (H6.out.2.2.1.below b) HX.out.2.1 l (H6.out.2.2.2.2.2.1.kept (Kept.of_below b (fun _ => False)) (fun _ _ f => f)) k a ha hal)
              have hrl : rs'.length ≤ 100000 := by rw [e4, List.length_map, List.length_range]; have := HY.out.2.2; omega
              have H0 := Lib.hid (And.intro e1 (And.intro e2 (And.intro e3 (And.intro e4 (And.intro e5 (And.intro e6 hrl))))))
              obtain ⟨rA, rc, er⟩ := own_form e3
              obtain ⟨rn, hrn⟩ : ∃ k, k = rs'.length := ⟨_, rfl⟩
              rw [← hrn] at er
              subst er
              clear e1 e2 e3 e4 e5 e6 hS ha hal hrl hrn hk
              go_wp2_with fail
              refine Calls.mono (HBk.out wr) ?_
              rintro r w7 ⟨rfl, b7⟩
              have H7 := Lib.hid (show Bk w7 Gb 25 #[.slice nA nn nc, .slice rA rn rc] ∧ Bk w7 Rb 25 #[.slice none 0 0, .slice none 0 0] ∧ ROwn w7 (Gb + 1) (.slice rA rn rc) rs' ∧ Below w6.heap.size w6 w7 ∧ Gb + 1 ≤ w7.heap.size from
                ⟨H0.out.1.below b7 H0.out.1.lt, H0.out.2.1.below b7 H0.out.2.1.lt, H0.out.2.2.1.below b7, H0.out.2.2.2.2.1.trans (b7.mono H0.out.2.2.2.2.1.size), by have := (H0.out.1.below b7 H0.out.1.lt).lt; omega⟩)
              clear b7 HBk
              go_wp2_with fail
              refine Calls.mono (HRr.out w7 H7.out.2.2.2.1) ?_
              rintro r w8 ⟨rfl, b8⟩
              have H8 := Lib.hid (show Bk w8 Gb 25 #[.slice nA nn nc, .slice rA rn rc] ∧ Bk w8 Rb 25 #[.slice none 0 0, .slice none 0 0] ∧ ROwn w8 (Gb + 1) (.slice rA rn rc) rs' ∧ Below w6.heap.size w6 w8 ∧ Gb + 1 ≤ w8.heap.size from
                ⟨H7.out.1.below b8 H7.out.1.lt, H7.out.2.1.below b8 H7.out.2.1.lt, H7.out.2.2.1.below b8, H7.out.2.2.2.1.trans (b8.mono H7.out.2.2.2.1.size), Nat.le_trans H7.out.2.2.2.2 b8.size⟩)
              clear b8 H7 HRr
              obtain ⟨xr, hxr⟩ : ∃ x, x = dRoot ws l k := ⟨_, rfl⟩
              have HXr := Lib.hid hxr
              rw [← hxr]
              clear hxr
              obtain ⟨xs1, xt1⟩ := xr
              unfold Rv.v
              simp only
              obtain ⟨g0, g1⟩ := H8.out.1.two
              have hGl := H8.out.1.lt
              have hfz := H8.out.1.free 1
              have HV := Lib.hid (two_new w8 56 56 (.string xs1) (.int .i64 xt1))
              go_wp2_with (at_builtin; refine wp_appRv rfl (.tmp 76) (.tmp 78) rfl (Gb + 1) _ rs' ⟨xs1, xt1⟩ rfl ((H8.out.2.2.1.below (Gw.alloc w8 _)).below (Gw.alloc _ _)) (w8.heap.size + 1) 1 rfl HV.out.1 HV.out.2 H0.out.2.2.2.2.2.2 (Nat.le_trans H8.out.2.2.2.2 (Nat.le_trans (Gw.alloc w8 _).size (Gw.alloc _ _).size)) ?_; intro v9 w9 ho9 hb9 hg9; obtain ⟨A9, c9, e9⟩ := own_form ho9; obtain ⟨n9, hn9⟩ : ∃ n, n = (rs' ++ [Rv.mk xs1 xt1]).length := ⟨_, rfl⟩; rw [← hn9] at e9; subst e9; clear hn9; have hk9 : Bk w9 Gb 25 #[.slice nA nn nc, .slice rA rn rc] := (Kept.grown hg9).bk ((H8.out.1.alloc _).alloc _) (fun hh => by have := (World.ownsRow.lt H8.out.2.2.1 _ hh).1; omega); have H9 := Lib.hid (And.intro ho9 (And.intro hk9 (And.intro ((Kept.grown hg9).bk ((H8.out.2.1.alloc _).alloc _) (fun hh => by have := (World.ownsRow.lt H8.out.2.2.1 _ hh).1; have := HSS.out.2.2.2.2.1; omega)) (((H8.out.2.2.2.1.alloc H8.out.2.2.2.1.size _).alloc (Nat.le_trans H8.out.2.2.2.1.size (Gw.alloc w8 _).size) _).trans (hb9.mono (by have := HG.out.2; omega)))))); clear g0 g1 hGl hfz; obtain ⟨g0, g1⟩ := hk9.two; have hGl := hk9.lt; have hfz := hk9.free 1; clear ho9 hb9 hg9 hk9)
              have HN : Hid (∃ rv rs', Bk (w9.setCell ⟨Gb, 1, none⟩ (.slice A9 n9 c9)) Gb 25 #[.slice nA nn nc, rv] ∧ Bk (w9.setCell ⟨Gb, 1, none⟩ (.slice A9 n9 c9)) Rb 25 #[.slice none 0 0, .slice none 0 0] ∧ ROwn (w9.setCell ⟨Gb, 1, none⟩ (.slice A9 n9 c9)) (Gb + 1) rv rs' ∧ rs' = (List.range (k + 1)).map (dRoot ws l) ∧ Below w6.heap.size w6 (w9.setCell ⟨Gb, 1, none⟩ (.slice A9 n9 c9)) ∧ Rb ≠ Gb) := by
                obtain ⟨h1, h2, h3, h4⟩ := H9.out
                refine Lib.hid ⟨_, _, by have := h2.set 1 (.slice A9 n9 c9); simpa using this, (Kept.set w9 Gb 1 _).bk h3 H0.out.2.2.2.2.2.1, (Kept.set w9 Gb 1 _).rowF h1 (fun j hj hh => by have := (World.ownsRow.lt h1 j hj).1; omega), ?_, ?_, H0.out.2.2.2.2.2.1⟩
                · rw [List.range_succ, List.map_append, ← H0.out.2.2.2.1, HXr.out]; rfl
                · exact h4.setCell (p := ⟨Gb, 1, none⟩) (show w6.heap.size ≤ Gb from Nat.le_of_eq HG.out.2.symm) _
              clear g0 g1 hGl hfz H9 H8
              go_roundw
              case rel => exact ⟨k + 1, by go_num, by omega, HN⟩
              case measure => simp [Go.RowKit.intOf]; omega
            · have p1 : ¬ (k : Int) < (R : Int) := by omega
              have hkR : k = R := by omega
              subst hkR
              obtain ⟨rA, rc, er⟩ := own_form e3
              obtain ⟨rn, hrn⟩ : ∃ k, k = rs'.length := ⟨_, rfl⟩
              rw [← hrn] at er
              subst er
              have H0 := Lib.hid (And.intro e1 (And.intro e2 (And.intro e3 (And.intro e4 (And.intro e5 (And.intro e6 hrn))))))
              obtain ⟨g0, g1⟩ := e1.two
              have hGl := e1.lt
              obtain ⟨q0, q1⟩ := e2.two
              have hRl := e2.lt
              have hfr0 := e2.free 0
              have hfr1 := e2.free 1
              clear e1 e2 e3 e4 e5 hS hk hrn
              go_wp2_with fail
              obtain ⟨V, hV⟩ : ∃ V, V = ((wr.setCell ⟨Rb, 0, none⟩ (.slice nA nn nc)).setCell ⟨Rb, 1, none⟩ (.slice rA rn rc)) := ⟨_, rfl⟩
              have kR : Bk V Rb 25 #[.slice nA nn nc, .slice rA rn rc] := by rw [hV]; exact two_set H0.out.2.1
              have kK : Kept (fun j => j = Rb) wr V := by
                rw [hV]
                exact (Kept.set wr Rb 0 _).trans (Kept.set _ Rb 1 _)
              have kB : Below w.heap.size w V := (H6.out.2.1.trans (H0.out.2.2.2.2.1.mono H6.out.2.1.size)).trans (kK.below (Nat.le_trans H6.out.2.1.size H0.out.2.2.2.2.1.size) (fun j hj => by have := HFr.out; omega))
              have hl := run_loadVar_row (P := Try.prog) V Rb 25 25 #[.slice nA nn nc, .slice rA rn rc] (0, 0) _ kR Try.underlying25 rfl (by kernel_rfl)
              rw [← hV]
              clear hV q0 q1 hRl hfr0 hfr1 g0 g1 hGl
              refine bodyPost_ret (res2 (p := 2) (u := 3) (by kernel_rfl) hl rfl rfl) rfl ?_
              rw [HE.out]
              obtain ⟨h1, h2, h3, h4, h5, h6, h7⟩ := H0.out
              have hN0 : NOwn wr w5.heap.size (.slice nA nn nc) xs := H6.out.2.2.2.1.below h5
              have hRb5 : Rb < w5.heap.size := HRb5.out
              have hNV : NOwn V w5.heap.size (.slice nA nn nc) xs := by
                refine hN0.grown (q := Rb) ⟨kK.os, kK.tape, kK.output, kK.size, fun j hj hn => kK.block j hj (fun e => hn (by rw [e]))⟩ (fun hm => ?_)
                have := blks_ge hN0 Rb hm
                omega
              have hRV : ROwn V (Gb + 1) (.slice rA rn rc) rs' := kK.rowF h3 (fun j hj hh => by have h9 := (World.ownsRow.lt h3 j hj).1; have := HSS.out.2.2.2.2.1; omega)
              obtain ⟨r1, r2, r3⟩ := hNV.rows
              obtain ⟨t1, t2, t3⟩ := hRV.rows
              refine .inr ⟨⟨nA, nc, rA, rc, xs, rs'⟩, l, ?_, ⟨r1, t1, r3, t3⟩, ?_, H6.out.2.2.2.2.1, ?_, ?_, kB, ?_, ?_⟩
              · show _ = Ending.returned (.tuple #[.agg #[.slice nA xs.length nc, .slice rA rs'.length rc], .int .i64 0])
                rw [← r2, ← t2]
                rfl
              · rw [← HX.out.1, ← HY.out.1, ← HY.out.2.1]; exact HOb.out.1
              · rw [← HY.out.1]; exact h4
              · rw [← HX.out.1, ← HY.out.1, ← HY.out.2.1]; exact HOb.out.2
              · show NOwn V w.heap.size (.slice nA xs.length nc) xs
                rw [← r2]
                exact hNV.mono HRw5.out
              · show ROwn V w.heap.size (.slice rA rs'.length rc) rs'
                rw [← t2]
                exact hRV.mono (by have := HG.out.1; omega)
        · have HBad := Lib.hid (show BadW ws from fun g g1 g2 e => by
            have h := (enc_read g1 g2).2
            rw [e, ← HX.out.1, ← HY.out.1] at h
            have h3 := h.2.2
            rw [← h.1, ← HY.out.2.1, HOb.out.1] at h3
            have h4 := h3.1
            injection h4 with h4
            rw [← h4] at h3
            exact hwl h3.2)
          have hwe : ¬ wellE ws b n = 0 := by rw [well_some HOb.out.1, if_neg hwl]; decide
          have HRn := Lib.hid (readNodes_bad w5 w2.heap.size s m v ws b n n H5.out.2.2 HX.out.2.1 hwe)
          obtain ⟨er, her⟩ : ∃ er, er = wellE ws b n := ⟨_, rfl⟩
          rw [← her] at HRn hwe
          have HEr := Lib.hid hwe
          have e1 : (er != 0) = true := by simpa using hwe
          clear hwl hwe her
          go_wp2_with fail
          refine Calls.mono HRn.out ?_
          rintro r w6 ⟨rfl, b6⟩
          have H6 := Lib.hid (show Bk w6 Rb 25 #[.slice none 0 0, .slice none 0 0] ∧ Below w.heap.size w w6 from ⟨H5.out.1.below b6 H5.out.1.lt, H5.out.2.1.trans (b6.mono H5.out.2.1.size)⟩)
          clear b6 H5 HRn
          obtain ⟨q0, q1⟩ := H6.out.1.two
          have hRl := H6.out.1.lt
          have hfr0 := H6.out.1.free 0
          have hfr1 := H6.out.1.free 1
          go_wp2_with fail
          obtain ⟨V, hV⟩ : ∃ V, V = ((w6.setCell ⟨Rb, 0, none⟩ (.slice none 0 0)).setCell ⟨Rb, 1, none⟩ (.slice none 0 0)) := ⟨_, rfl⟩
          have kR : Bk V Rb 25 #[.slice none 0 0, .slice none 0 0] := by rw [hV]; exact two_set H6.out.1
          have kB : Below w.heap.size w V := by rw [hV]; exact two_below H6.out.2 HFr.out
          have hl := run_loadVar_row (P := Try.prog) V Rb 25 25 #[.slice none 0 0, .slice none 0 0] (0, 0) _ kR Try.underlying25 rfl (by kernel_rfl)
          rw [← hV]
          clear hV q0 q1 hRl hfr0 hfr1
          refine bodyPost_ret (res2 (p := 2) (u := 3) (by kernel_rfl) hl rfl rfl) rfl ?_
          rw [HE.out]
          exact .inl ⟨er, HEr.out, rfl, kB, HBad.out⟩
    · have HBad := Lib.hid (show BadW ws from fun g g1 g2 e => by
        have h := (enc_read g1 g2).2
        rw [e, ← HX.out.1, ← HY.out.1] at h
        have h3 := h.2.1
        have h4 := h.1
        have h5 := HY.out.2.1
        omega)
      have HSo := Lib.hid (sof_out w4 (.pointer (some ⟨m, 0, none⟩)) b n n (bare_out w4 w2.heap.size m v ws b n n HM4.out (.inr (.inl ⟨by omega, by omega⟩))))
      clear hbn
      go_wp2_with fail
      refine Calls.mono HSo.out ?_
      rintro r w5 ⟨rfl, rfl⟩
      obtain ⟨q0, q1⟩ := H4.out.1.two
      have hRl := H4.out.1.lt
      have hfr0 := H4.out.1.free 0
      have hfr1 := H4.out.1.free 1
      go_wp2_with fail
      obtain ⟨V, hV⟩ : ∃ V, V = ((w5.setCell ⟨Rb, 0, none⟩ (.slice none 0 0)).setCell ⟨Rb, 1, none⟩ (.slice none 0 0)) := ⟨_, rfl⟩
      have kR : Bk V Rb 25 #[.slice none 0 0, .slice none 0 0] := by rw [hV]; exact two_set H4.out.1
      have kB : Below w.heap.size w V := by rw [hV]; exact two_below H4.out.2 HFr.out
      have hl := run_loadVar_row (P := Try.prog) V Rb 25 25 #[.slice none 0 0, .slice none 0 0] (0, 0) _ kR Try.underlying25 rfl (by kernel_rfl)
      rw [← hV]
      clear hV q0 q1 hRl hfr0 hfr1
      refine bodyPost_ret (res2 (p := 2) (u := 3) (by kernel_rfl) hl rfl rfl) rfl ?_
      rw [HE.out]
      exact .inl ⟨1, by decide, rfl, kB, HBad.out⟩
end Go.Proofs.Ytkkjnahjmomjgaa
