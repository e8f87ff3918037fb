/- Texts joined: NmT RegL NmL NmA6 NmU Frame OpenR OpenN. -/
import Derived.Test.YtdfhdgdhhgabbaaNmK
import Derived.Test.YtdfhdgdhhgabbaaRegT
import Derived.Deep.CutRange
import Derived.Test.YtdfhdgdhhgabbaaNmA5
import Derived.Shelf.SlGeneric
import Derived.Shelf.SlMaps.Clone
import Derived.Ground.SlmcProg
import Derived.Test.YtdfhdgdhhgabbaaNmE
import Derived.Test.YtdfhdgdhhgabbaaRows
import Derived.Test.YtdfhdgdhhgabbaaStr
import Derived.WalkKit
import Derived.ProofKit
import Derived.OpenShut
import Derived.ShutString
import Derived.ChangeOld
import Derived.Below
import Derived.Deep.Slices
import Derived.Deep.Fields
import Derived.Test.YtdfhdgdhhgabbaaNmX
/- Single operations of straight code. No conditions. -/
namespace Go.Proofs.Ytdfhdgdhhgabbaa
set_option linter.unusedVariables false
set_option linter.unusedSimpArgs false
open Go.RowKit Go.Maps
section
variable {ops : Array Oper} {rest : List Oper} {o : Oper} {a : Act} {w : World} {Q : Exit → Act → World → Prop}
end
end Go.Proofs.Ytdfhdgdhhgabbaa
/- A region that keeps its order, by a fact for each of its operations. No conditions. -/
namespace Go.Proofs.Ytdfhdgdhhgabbaa
set_option linter.unusedVariables false
set_option linter.unusedSimpArgs false
open Go.RowKit
section
variable {P : Program} {ops : Array Oper} {Q : Exit → Act → World → Prop} {G : World → World → Prop} {F : Nat → Value → World → Prop} {a0 : Act} {w0 : World}
theorem list_facts0 (hrefl : G w0 w0) (htrans : ∀ a b c, G a b → G b c → G a c) (hmono : ∀ j, j < ops.size → ∀ v a b, F j v a → G a b → F j v b)
    (hreg : regB ops a0.tmps.size = true) (howes : ∀ i, i < ops.size → Owes P ops Q G F a0 w0 i)
    (fin : ∀ (vals : Nat → Value) (w : World), G w0 w → (∀ j, j < ops.size → F j (vals j) w) → Q .normal (putL ops vals (List.range ops.size) a0) w) :
    wpList P ops Q ops.toList a0 w0 := by
  have main : ∀ (n k : Nat) (a : Act) (w : World), k + n = ops.size → G w0 w → a.defers = a0.defers → a.tmps.size = a0.tmps.size →
      (∀ j, j < k → F j (valAt ops a j) w) → (∀ t, (∀ j, j < k → dstOf ops j ≠ some t) → a.tmps.getD t undef = a0.tmps.getD t undef) →
      wpOps P ops Q (List.range' k n) a w := by
    intro n
    induction n with
    | zero =>
      intro k a w hk hG hd hs hF hR
      obtain rfl : k = ops.size := by omega
      show Q .normal a w
      have := fin (valAt ops a) w hG hF
      rw [putL_whole a (List.range ops.size) a0 hs.symm hd.symm] at this
      · exact this
      · intro t
        by_cases e : ∃ j, j < ops.size ∧ dstOf ops j = some t
        · obtain ⟨j, hj, hjd⟩ := e
          exact .inr ⟨j, List.mem_range.2 hj, hjd⟩
        · left
          exact (hR t fun j hj he => e ⟨j, hj, he⟩).symm
    | succ n ih =>
      intro k a w hk hG hd hs hF hR
      have hlt : k < ops.size := by omega
      rw [List.range'_succ, wpOps_cons]
      have hw : ∀ i j, i < ops.size → waitsB ops i j = true → j < i := by
        intro i j hi hj
        obtain ⟨o', ho', e, he, hb, rfl⟩ := waits_some hj
        obtain ⟨o, d, ho, _, _, _, hh⟩ := regB_at hreg hi
        rw [ho] at ho'
        injection ho' with ho'
        subst ho'
        exact hh e he hb
      have hlt2 : ∀ j t, dstOf ops j = some t → j < ops.size := by
        intro j t h
        rcases Nat.lt_or_ge j ops.size with hl | hl
        · exact hl
        · unfold dstOf at h; rw [Array.getElem?_eq_none hl] at h; cases h
      have hstep := howes k hlt a w hG hd hs (fun j hj => hF j (hw k j hlt hj)) (fun t ht => hR t fun j hj he => by
        have h1 := ht j he
        have := hw j k (hlt2 j t he) h1
        omega)
      refine wpOp_mono ?_ hstep
      rintro a' w' ⟨v, rfl, hg, hf⟩
      obtain ⟨o2, d, ho2, hd2, hdl, hdd, _⟩ := regB_at hreg hlt
      have hdo : dstOf ops k = some d := by unfold dstOf; rw [ho2]; exact hd2
      rw [hdo]
      refine ih (k + 1) (a.put (some d) v) w' (by omega) (htrans _ _ _ hG hg) (by exact hd) (by rw [put_size, hs]) ?_ ?_
      · intro j hj
        by_cases e : j = k
        · subst e
          unfold valAt
          rw [hdo]
          simp only
          rw [put_same _ _ _ (by rw [hs]; exact hdl)]
          exact hf
        · have h1 := hmono j (by omega) _ _ _ (hF j (by omega)) hg
          have h2 : valAt ops (a.put (some d) v) j = valAt ops a j := by
            unfold valAt
            have hne := hdd j (by omega) e
            cases hjd : dstOf ops j with
            | none => rfl
            | some dj =>
              simp only
              exact put_other _ _ _ _ (fun h => hne (by rw [hjd]; exact h.symm))
          rw [h2]
          exact h1
      · intro t ht
        have h1 : some d ≠ some t := fun h => ht k (by omega) (by rw [hdo]; exact h)
        rw [put_other _ _ _ _ h1]
        exact hR t fun j hj => ht j (by omega)
  rw [← wpOps_eq_wpList ops.toList 0 (by simp), Array.length_toList]
  exact main ops.size 0 a0 w0 (by omega) hrefl rfl rfl (fun j hj => absurd hj (by omega)) (fun t _ => rfl)
end
section
variable {P : Program} {ops : Array Oper} {Q : Exit → Act → World → Prop} {F : Nat → Value → World → Prop} {a0 : Act} {w0 : World}
end
/-- A region's operations from the k-th on, each of which waits for all that stand ahead of it. -/
def cutOps (k : Nat) (ops : Array Oper) : List Oper := ops.toList.drop k
def fullO (k : Nat) (p : Oper × Nat) : Oper := { p.1 with guard := p.1.guard.map fun g => (g.1 - k, g.2), after := ((List.range p.2).map fun j => ({ on := j, ground := .data } : Edge)).toArray }
def fullOps (k : Nat) (ops : Array Oper) : Array Oper := ((cutOps k ops).zipIdx.map (fullO k)).toArray
def cutB (k : Nat) (ops : Array Oper) : Bool := (cutOps k ops).all fun o => match o.guard with | none => true | some g => decide (k ≤ g.1)
theorem fullO_wp {P : Program} {k i : Nat} {o : Oper} {a : Act} {w : World} {K : Act → World → Prop} {Q : Exit → Act → World → Prop} (h : (fullO k (o, i)).wp P a w K Q) : o.wp P a w K Q := by
  cases o
  exact h
theorem fullO_asks {P : Program} {k i : Nat} {o : Oper} {a : Act} {w : World} (h : (fullO k (o, i)).asks P a w) : o.asks P a w := by
  cases o
  exact h
theorem full_get {ops : Array Oper} {k j : Nat} (h : k ≤ j) : ((fullOps k ops)[j - k]?).bind (·.dst) = (ops[j]?).bind (·.dst) := by
  unfold fullOps cutOps
  rw [List.getElem?_toArray, List.getElem?_map, List.getElem?_zipIdx, List.getElem?_drop]
  rw [show k + (j - k) = j by omega, Array.getElem?_toList]
  cases ops[j]? with
  | none => rfl
  | some o => rfl
theorem full_list {P : Program} {ops : Array Oper} {Q : Exit → Act → World → Prop} {k : Nat} : ∀ (l : List Oper) (i : Nat), (l.all fun o => match o.guard with | none => true | some g => decide (k ≤ g.1)) = true →
    ∀ a w, wpList P (fullOps k ops) Q ((l.zipIdx i).map (fullO k)) a w → wpList P ops Q l a w
  | [], _, _, _, _, h => h
  | o :: l, i, hg, a, w, h => by
    rw [List.all_cons, Bool.and_eq_true] at hg
    have hw : Region.wanted (fullO k (o, i)) (yielded (fullOps k ops) a.tmps) = Region.wanted o (yielded ops a.tmps) := by
      unfold Region.wanted fullO
      cases hgd : o.guard with
      | none => rfl
      | some g =>
        have hk : k ≤ g.1 := by have := hg.1; rw [hgd] at this; simpa using this
        have : yielded (fullOps k ops) a.tmps (g.1 - k) = yielded ops a.tmps g.1 := by unfold yielded; rw [full_get hk]
        obtain ⟨g1, g2⟩ := g
        simp only [Option.map_some] at this ⊢
        rw [this]
    rw [List.zipIdx_cons, List.map_cons] at h
    unfold wpList at h ⊢
    rw [hw] at h
    split
    · rename_i hy
      rw [if_pos hy] at h
      rcases h with h | h
      · exact .inl (Oper.wp_mono (fun a w h => full_list l (i + 1) hg.2 a w h) (fullO_wp h))
      · exact .inr ⟨fullO_asks h.1, h.2⟩
    · rename_i hy
      rw [if_neg hy] at h
      exact full_list l (i + 1) hg.2 _ _ h
/-- The rest of a region, from the k-th operation on, by a fact for each of its operations. -/
theorem list_by0 {P : Program} {ops0 ops : Array Oper} {Q : Exit → Act → World → Prop} {G : World → World → Prop} {a0 : Act} {w0 : World} {k : Nat} {rest : List Oper} (Fs : List (Value → World → Prop)) (ds : List Tmp)
    (ho : fullOps k ops0 = ops) (hr : rest = cutOps k ops0) (hc : cutB k ops0 = true)
    (hrefl : G w0 w0) (htrans : ∀ a b c, G a b → G b c → G a c)
    (hreg : regB ops a0.tmps.size = true) (hds : (List.range' 0 ops.size).map (dstOf ops) = ds.map some)
    (hmono : ∀ f ∈ Fs, ∀ v a b, f v a → G a b → f v b)
    (howes : AllN (Owes P ops Q G (fun j => Fs.getD j fun _ _ => True) a0 w0) ops.size 0)
    (fin : ∀ (vals : Nat → Value) (w : World), G w0 w → (∀ j, j < ops.size → (Fs.getD j fun _ _ => True) (vals j) w) → Q .normal (putD vals ds 0 a0) w) :
    wpList P ops0 Q rest a0 w0 := by
  subst hr
  have h : wpList P ops Q ops.toList a0 w0 := by
    refine list_facts0 hrefl htrans ?_ hreg (fun i hi => howes.at_ _ _ i (by omega) (by omega)) ?_
    · intro j _ v a b h g
      rw [List.getD_eq_getElem?_getD] at h ⊢
      cases hj : Fs[j]? with
      | none => rw [hj] at h; exact trivial
      | some f => rw [hj] at h; exact hmono f (List.mem_of_getElem? hj) v a b h g
    · intro vals w hG hF
      rw [List.range_eq_range', putD_eq vals ds ops.size 0 a0 hds]
      exact fin vals w hG hF
  subst ho
  exact full_list _ 0 hc a0 w0 h
end Go.Proofs.Ytdfhdgdhhgabbaa
/- What loamlaw19.known answers. No conditions. -/
namespace Go.Proofs.Ytdfhdgdhhgabbaa
set_option linter.unusedVariables false
set_option linter.unusedSimpArgs false
open Go.RowKit Go.Maps
set_option maxHeartbeats 8000000
set_option maxRecDepth 100000
def abT : Nm := [97#8, 98#8]
def abN : Nm := padNm abT
theorem ab_good : goodN abT := ⟨by decide, by decide, by decide⟩
theorem ab_w : nW abN := padNm_w ab_good.2.1
theorem ab_cut : strB (cutN abN) = ⟨#[97, 98]⟩ := by rw [abN, good_cut ab_good]; rfl
theorem k19_f1 (w : World) : Calls Try.prog 8 #[.string ⟨#[97, 98]⟩] w (RetP (.tuple #[.agg (nC abN), .int .i64 0]) w) := fix_ok abT w ab_good
theorem k19_f2 (w : World) : Calls Try.prog 8 #[.string ⟨#[]⟩] w (RetP (.tuple #[.agg (nC zN), .int .i64 4]) w) := fix_bad [] w (fun h => absurd h.1 (by simp))
/-- Unbind: what is turned is the map alone. -/
theorem unbind_m {w : World} {g : Nat} {m : Tb} {mb : Option Nat} (h1 : Bk w g 34 #[.map mb]) (h2 : NmO w mb m) (hne : ∀ b, mb = some b → b ≠ g) (k : Nm) (hk : nW k) (x : Int) (ok : Bool) (hx : (vOf m k).getD 0 = x) (ho : (vOf m k).isSome = ok) : Calls Try.prog 14 #[.pointer (some ⟨g, 0, none⟩), nV k] w fun e w' => e = .returned (.tuple #[.int .i64 x, .bool ok]) ∧ Bk w' g 34 #[.map mb] ∧ NmO w' mb (delN m k) ∧ Kept (fun c => mb = some c) w w' := by
  have hl := h2.lkf hk
  rw [hx, ho] at hl
  have hs := nC_size hk
  have HM := Lib.hid (And.intro h2 hne)
  have HK := Lib.hid hk
  unfold nV
  obtain ⟨arr, harr⟩ : ∃ arr, arr = nC k := ⟨_, rfl⟩
  rw [← harr] at hl hs ⊢
  have HA := Lib.hid harr
  have HL := Lib.hid hl
  have HG := Lib.hid h1
  have HS := Lib.hid hs
  clear hl hs harr h1 h2 hne hx ho hk
  have HQ := Lib.hid (Bk.new w 24 arr)
  have HW := Lib.hid (Gw.alloc w (.cells arr 24))
  have HL1 := Lib.hid (show LkF (w.alloc (.cells arr 24)) mb arr x ok from fun W hb => HL.out W (HW.out.trans (hb.mono (by simp))))
  go_enter Try.func14, Try.ntmps14
  go_wp2_with fail
  refine ub_reg _ _ _ g w.heap.size mb arr x ok HS.out (HG.out.below HW.out HG.out.lt) HQ.out HL1 rfl rfl rfl ?_
  intro vals w1 hG h6 h7
  unfold IsV at h6 h7
  simp only [putD, Act.put, List.setIfInBounds_toArray, List.set_cons_zero, List.set_cons_succ, h6, h7]
  have HB := Lib.hid (HW.out.trans (hG.mono (by simp)))
  have HQ1 := Lib.hid (HQ.out.below hG HQ.out.lt)
  clear h6 h7 hG HQ HL HL1
  go_wp2_with fail
  refine ud_reg _ _ _ g w.heap.size mb arr HS.out (HG.out.below HB.out HG.out.lt) HQ1.out rfl rfl rfl ?_
  intro vals w2 hG h20 h21
  unfold IsV at h20 h21
  simp only [putD, Act.put, List.setIfInBounds_toArray, List.set_cons_zero, List.set_cons_succ, h20, h21]
  have HB2 := Lib.hid (HB.out.trans (hG.mono HB.out.size))
  clear h20 h21 hG
  have HM2 := Lib.hid (HM.out.1.kept (Kept.of_below HB2.out (fun _ => False)) (fun _ _ f => f))
  go_wp2_with (refine wp_delN rfl _ _ rfl rfl HM2.out k (by rw [nV, ← HA.out]; rfl) HK.out ?_; intro w3 hm3 hk3; have HM3 := Lib.hid (And.intro hm3 hk3); clear hm3 hk3)
  go_ret2
  have hb := HM3.out.2
  have hg2 := HG.out.below HB2.out HG.out.lt
  exact ⟨rfl, hb.bk hg2 (fun e => HM.out.2 g e rfl), HM3.out.1, (Kept.of_below HB2.out _).trans hb⟩
section
variable {B : Nat} {w : World} {g : Nat}
theorem k19_b1 (h : TbX B w g []) (hB : B ≤ w.heap.size) : Calls Try.prog 13 #[.pointer (some ⟨g, 0, none⟩), .agg (nC abN), .int .i64 5] w (TbP B w g [(abN, 5)] (.tuple #[.int .i64 0, .int .i64 0])) :=
  bind_ok h hB abT ab_good 5 (by decide) (by decide) (by decide) (.inr (by decide))
theorem set_one (k : Nm) (a b : Int) : setN [(k, a)] k b = [(k, b)] := by unfold setN; rw [if_pos rfl]
theorem vOf_one (k : Nm) (a : Int) : vOf [(k, a)] k = some a := by unfold vOf; rw [if_pos rfl]
theorem k19_b2 (h : TbX B w g [(abN, 5)]) (hB : B ≤ w.heap.size) : Calls Try.prog 13 #[.pointer (some ⟨g, 0, none⟩), .agg (nC abN), .int .i64 6] w (TbP B w g [(abN, 6)] (.tuple #[.int .i64 5, .int .i64 0])) := by
  have := bind_ok h hB abT ab_good 6 (by decide) (by decide) (by simp) (.inr (by simp))
  rw [show padNm abT = abN from rfl, set_one, vOf_one] at this
  exact this
theorem k19_l (h : TbX B w g [(abN, 6)]) : Calls Try.prog 15 #[.pointer (some ⟨g, 0, none⟩), .agg (nC abN)] w (RetP (.tuple #[.int .i64 6, .bool true]) w) :=
  look_c h abN ab_w 6 true (by rw [vOf_one]; rfl) (by rw [vOf_one]; rfl)
theorem k19_u {mb : Option Nat} (h1 : Bk w g 34 #[.map mb]) (h2 : NmO w mb [(abN, 6)]) (hne : ∀ b, mb = some b → b ≠ g) : Calls Try.prog 14 #[.pointer (some ⟨g, 0, none⟩), .agg (nC abN)] w fun e w' => e = .returned (.tuple #[.int .i64 6, .bool true]) ∧ Bk w' g 34 #[.map mb] ∧ NmO w' mb [] ∧ Kept (fun c => mb = some c) w w' := by
  have := unbind_m h1 h2 hne abN ab_w 6 true (by rw [vOf_one]; rfl) (by rw [vOf_one]; rfl)
  rw [show delN [(abN, (6 : Int))] abN = [] from by simp [delN]] at this
  exact this
theorem TbX.new (w : World) : TbX w.heap.size (w.alloc (.cells #[.map none] 34)) w.heap.size [] :=
  ⟨none, Bk.new w _ _, rfl, Nat.le_refl _, fun b e => by cases e⟩
end
theorem cell_ltN {w : World} {a : Addr} {v : Value} (h : w.cell? a = some v) : a.block < w.heap.size := by
  rcases Nat.lt_or_ge a.block w.heap.size with hl | hl
  · exact hl
  · unfold World.cell? at h; rw [Array.getElem?_eq_none hl] at h; cases h
theorem k19_end (Q : Exit → Act → World → Prop) (a0 : Act) (w : World) (g1 q9 c9 g : Nat) (arr : Array Value) (hs : arr.size = 32) (HK : Hid (Bk w g1 24 arr)) (HR : Hid (w.cell? ⟨q9, 0, none⟩ = some (.string ⟨#[97, 98]⟩) ∧ w.cell? ⟨q9, 1, none⟩ = some (.int .i64 6))) (HT : Hid (TbX 0 w g [])) (HST : Hid (∀ W, Calls Try.prog 10 #[.agg arr] W (RetP (.string ⟨#[97, 98]⟩) W))) (hA0 : arr[0]? = some (.int .u8 97)) (hA2 : arr[2]? = some (.int .u8 0)) (ops0 : Array Oper) (rest : List Oper) (hops : ops0 = regIn Try.f7 9) (hrest : rest = cutOps 0 (regIn Try.f7 9)) (hsz : a0.tmps.size = 114) (sl1 : a0.tmps.getD 1 undef = .pointer (some ⟨g1, 0, none⟩)) (sl2 : a0.tmps.getD 2 undef = .int .i64 0) (sl4 : a0.tmps.getD 4 undef = .int .i64 4) (sl5 : a0.tmps.getD 5 undef = .pointer (some ⟨g, 0, none⟩)) (sl6 : a0.tmps.getD 6 undef = .int .i64 0) (sl7 : a0.tmps.getD 7 undef = .int .i64 0) (sl8 : a0.tmps.getD 8 undef = .int .i64 5) (sl9 : a0.tmps.getD 9 undef = .int .i64 0) (sl10 : a0.tmps.getD 10 undef = .int .i64 6) (sl11 : a0.tmps.getD 11 undef = .bool true) (sl12 : a0.tmps.getD 12 undef = .slice (some ⟨q9, 0, none⟩) 1 c9) (sl13 : a0.tmps.getD 13 undef = .int .i64 6) (sl14 : a0.tmps.getD 14 undef = .bool true)
    (fin : ∀ (vals : Nat → Value) (w1 : World), Below w.heap.size w w1 → (IsV (.bool true)) (vals 70) w1 → Q .normal (putD vals [44, 45, 46, 47, 48, 49, 50, 51, 52, 53, 54, 55, 56, 57, 58, 59, 60, 61, 62, 63, 64, 65, 66, 67, 68, 69, 70, 71, 72, 73, 74, 75, 76, 77, 78, 79, 80, 81, 82, 83, 84, 85, 86, 87, 88, 89, 90, 91, 92, 93, 94, 95, 96, 97, 98, 99, 100, 101, 102, 103, 104, 105, 106, 107, 108, 109, 110, 111, 112, 113, 0] 0 a0) w1) :
    wpList Try.prog ops0 Q rest a0 w := by
  subst hops
  refine list_by0 (ops := fullOps 0 (regIn Try.f7 9)) (k := 0) (G := fun w w1 => Below w.heap.size w w1) [IsV (.int .i64 0),
    IsV (.int .i64 0),
    IsV (.int .i64 0),
    IsV (.int .i64 0),
    IsV (.int .i64 0),
    IsV (.bool true),
    IsV (.bool true),
    IsV (.int .i64 4),
    IsV (.bool true),
    IsV (.bool true),
    IsV (.bool true),
    IsV (.agg arr),
    IsV (.string ⟨#[97, 98]⟩),
    IsV (.bool true),
    IsV (.bool true),
    IsV (.bool true),
    IsV (.pointer (some ⟨g1, 0, none⟩)),
    IsV (.int .u8 97),
    IsV (.bool true),
    IsV (.bool true),
    IsV (.bool true),
    IsV (.pointer (some ⟨g1, 2, none⟩)),
    IsV (.int .u8 0),
    IsV (.bool true),
    IsV (.bool true),
    IsV (.bool true),
    IsV (.int .i64 0),
    IsV (.bool true),
    IsV (.bool true),
    IsV (.bool true),
    IsV (.int .i64 5),
    IsV (.bool true),
    IsV (.bool true),
    IsV (.bool true),
    IsV (.int .i64 6),
    IsV (.bool true),
    IsV (.bool true),
    IsV (.bool true),
    IsV (.bool true),
    IsV (.bool true),
    IsV (.bool true),
    IsV (.slice (some ⟨q9, 0, none⟩) 1 c9),
    IsV (.int .i64 1),
    IsV (.bool true),
    IsV (.bool true),
    IsV (.bool true),
    IsV (.slice (some ⟨q9, 0, none⟩) 1 c9),
    IsV (.pointer (some ⟨q9, 0, none⟩)),
    IsV (.pointer (some ⟨q9, 0, none⟩)),
    IsV (.string ⟨#[97, 98]⟩),
    IsV (.bool true),
    IsV (.bool true),
    IsV (.bool true),
    IsV (.slice (some ⟨q9, 0, none⟩) 1 c9),
    IsV (.pointer (some ⟨q9, 0, none⟩)),
    IsV (.pointer (some ⟨q9, 1, none⟩)),
    IsV (.int .i64 6),
    IsV (.bool true),
    IsV (.bool true),
    IsV (.bool true),
    IsV (.int .i64 6),
    IsV (.bool true),
    IsV (.bool true),
    IsV (.bool true),
    IsV (.bool true),
    IsV (.bool true),
    IsV (.bool true),
    IsV (.int .i64 0),
    IsV (.bool true),
    IsV (.bool true),
    IsV (.bool true)]
    [44, 45, 46, 47, 48, 49, 50, 51, 52, 53, 54, 55, 56, 57, 58, 59, 60, 61, 62, 63, 64, 65, 66, 67, 68, 69, 70, 71, 72, 73, 74, 75, 76, 77, 78, 79, 80, 81, 82, 83, 84, 85, 86, 87, 88, 89, 90, 91, 92, 93, 94, 95, 96, 97, 98, 99, 100, 101, 102, 103, 104, 105, 106, 107, 108, 109, 110, 111, 112, 113, 0] rfl hrest (by kernel_rfl) (Gw.rfl_ _) Gw.trans (by rw [hsz]; kernel_rfl) (by kernel_rfl) ?_ ?_ ?_
  · intro f hf
    simp only [List.mem_cons, List.not_mem_nil, or_false] at hf
    rcases hf with rfl | rfl | rfl | rfl | rfl | rfl | rfl | rfl | rfl | rfl | rfl | rfl | rfl | rfl | rfl | rfl | rfl | rfl | rfl | rfl | rfl | rfl | rfl | rfl | rfl | rfl | rfl | rfl | rfl | rfl | rfl | rfl | rfl | rfl | rfl | rfl | rfl | rfl | rfl | rfl | rfl | rfl | rfl | rfl | rfl | rfl | rfl | rfl | rfl | rfl | rfl | rfl | rfl | rfl | rfl | rfl | rfl | rfl | rfl | rfl | rfl | rfl | rfl | rfl | rfl | rfl | rfl | rfl | rfl | rfl | rfl <;> intro v a b h g <;> first | exact IsV.mono h
  · refine ⟨?_, ?_, ?_, ?_, ?_, ?_, ?_, ?_, ?_, ?_, ?_, ?_, ?_, ?_, ?_, ?_, ?_, ?_, ?_, ?_, ?_, ?_, ?_, ?_, ?_, ?_, ?_, ?_, ?_, ?_, ?_, ?_, ?_, ?_, ?_, ?_, ?_, ?_, ?_, ?_, ?_, ?_, ?_, ?_, ?_, ?_, ?_, ?_, ?_, ?_, ?_, ?_, ?_, ?_, ?_, ?_, ?_, ?_, ?_, ?_, ?_, ?_, ?_, ?_, ?_, ?_, ?_, ?_, ?_, ?_, ?_, trivial⟩
    · exact owes_mv 2 (by kernel_rfl) (by kernel_rfl) (by kernel_rfl) sl2 (fun _ => rfl)
    · exact owes_mv 7 (by kernel_rfl) (by kernel_rfl) (by kernel_rfl) sl7 (fun _ => rfl)
    · refine owes_v (Go.Op.binOp Go.BinOp.add 3 (Go.Operand.tmp 44) (Go.Operand.tmp 45) 3) 3 [0, 1] (by kernel_rfl) (by kernel_rfl) (by kernel_rfl) rfl fun vals w1 ρ hG hF hρ hcst hfun => ?_
      have e44 : ρ (.tmp 44) = .int .i64 0 := ((hρ 44).trans (slotJ [0, 1] (by rw [hsz]; decide) (by kernel_rfl))).trans (hF 0 (by decide))
      have e45 : ρ (.tmp 45) = .int .i64 0 := ((hρ 45).trans (slotJ [0, 1] (by rw [hsz]; decide) (by kernel_rfl))).trans (hF 1 (by decide))
      clear hρ hF hcst hfun sl1 sl2 sl4 sl5 sl6 sl7 sl8 sl9 sl10 sl11 sl12 sl13 sl14 fin
      exact opv_val (by go_simp <;> rfl) ⟨gw_self _, rfl⟩
    · exact owes_mv 9 (by kernel_rfl) (by kernel_rfl) (by kernel_rfl) sl9 (fun _ => rfl)
    · refine owes_v (Go.Op.binOp Go.BinOp.add 3 (Go.Operand.tmp 46) (Go.Operand.tmp 47) 3) 3 [2, 3] (by kernel_rfl) (by kernel_rfl) (by kernel_rfl) rfl fun vals w1 ρ hG hF hρ hcst hfun => ?_
      have e46 : ρ (.tmp 46) = .int .i64 0 := ((hρ 46).trans (slotJ [2, 3] (by rw [hsz]; decide) (by kernel_rfl))).trans (hF 2 (by decide))
      have e47 : ρ (.tmp 47) = .int .i64 0 := ((hρ 47).trans (slotJ [2, 3] (by rw [hsz]; decide) (by kernel_rfl))).trans (hF 3 (by decide))
      clear hρ hF hcst hfun sl1 sl2 sl4 sl5 sl6 sl7 sl8 sl9 sl10 sl11 sl12 sl13 sl14 fin
      exact opv_val (by go_simp <;> rfl) ⟨gw_self _, rfl⟩
    · refine owes_v (Go.Op.binOp Go.BinOp.eql 3 (Go.Operand.tmp 48) (Go.Operand.const (Go.Value.int Go.IntKind.i64 0)) 3) 4 [4] (by kernel_rfl) (by kernel_rfl) (by kernel_rfl) rfl fun vals w1 ρ hG hF hρ hcst hfun => ?_
      have e48 : ρ (.tmp 48) = .int .i64 0 := ((hρ 48).trans (slotJ [4] (by rw [hsz]; decide) (by kernel_rfl))).trans (hF 4 (by decide))
      clear hρ hF hfun sl1 sl2 sl4 sl5 sl6 sl7 sl8 sl9 sl10 sl11 sl12 sl13 sl14 fin
      exact opv_val (by go_simp <;> rfl) ⟨gw_self _, rfl⟩
    · exact owes_mvj 5 49 (by kernel_rfl) (by kernel_rfl) (by kernel_rfl) (by kernel_rfl) (by rw [hsz]; decide) (fun v w h => h)
    · refine owes_vt 6 true (Go.Op.move (Go.Operand.tmp 4)) 25 [] (by kernel_rfl) (by kernel_rfl) (by kernel_rfl) (fun _ _ h => h) (by rw [hsz]; kernel_rfl) (by kernel_rfl) rfl fun vals w1 ρ hG hF hρ hcst hfun => ?_
      have e4 : ρ (.tmp 4) = .int .i64 4 := ((hρ 4).trans (slotO [] (by kernel_rfl))).trans sl4
      clear hρ hF hcst hfun sl1 sl2 sl4 sl5 sl6 sl7 sl8 sl9 sl10 sl11 sl12 sl13 sl14 fin
      exact opv_val (by go_simp <;> rfl) ⟨gw_self _, rfl⟩
    · refine owes_vt 6 true (Go.Op.binOp Go.BinOp.eql 3 (Go.Operand.tmp 51) (Go.Operand.const (Go.Value.int Go.IntKind.i64 4)) 3) 4 [7] (by kernel_rfl) (by kernel_rfl) (by kernel_rfl) (fun _ _ h => h) (by rw [hsz]; kernel_rfl) (by kernel_rfl) rfl fun vals w1 ρ hG hF hρ hcst hfun => ?_
      have e51 : ρ (.tmp 51) = .int .i64 4 := ((hρ 51).trans (slotJ [7] (by rw [hsz]; decide) (by kernel_rfl))).trans (hF 7 (by decide))
      clear hρ hF hfun sl1 sl2 sl4 sl5 sl6 sl7 sl8 sl9 sl10 sl11 sl12 sl13 sl14 fin
      exact opv_val (by go_simp <;> rfl) ⟨gw_self _, rfl⟩
    · refine owes_v (Go.Op.pick (Go.Operand.tmp 50) (Go.Operand.tmp 52) (Go.Operand.const (Go.Value.bool false))) 4 [6, 8] (by kernel_rfl) (by kernel_rfl) (by kernel_rfl) rfl fun vals w1 ρ hG hF hρ hcst hfun => ?_
      have e50 : ρ (.tmp 50) = .bool true := ((hρ 50).trans (slotJ [6, 8] (by rw [hsz]; decide) (by kernel_rfl))).trans (hF 6 (by decide))
      have e52 : ρ (.tmp 52) = .bool true := ((hρ 52).trans (slotJ [6, 8] (by rw [hsz]; decide) (by kernel_rfl))).trans (hF 8 (by decide))
      clear hρ hF hfun sl1 sl2 sl4 sl5 sl6 sl7 sl8 sl9 sl10 sl11 sl12 sl13 sl14 fin
      exact opv_val (by go_simp <;> rfl) ⟨gw_self _, rfl⟩
    · exact owes_mvj 9 53 (by kernel_rfl) (by kernel_rfl) (by kernel_rfl) (by kernel_rfl) (by rw [hsz]; decide) (fun v w h => h)
    · refine owes_vt 10 true (Go.Op.load 24 (Go.Operand.tmp 1)) 24 [] (by kernel_rfl) (by kernel_rfl) (by kernel_rfl) (fun _ _ h => h) (by rw [hsz]; kernel_rfl) (by kernel_rfl) rfl fun vals w1 ρ hG hF hρ hcst hfun => ?_
      have e1 : ρ (.tmp 1) = .pointer (some ⟨g1, 0, none⟩) := ((hρ 1).trans (slotO [] (by kernel_rfl))).trans sl1
      clear hρ hF hcst hfun sl1 sl2 sl4 sl5 sl6 sl7 sl8 sl9 sl10 sl11 sl12 sl13 sl14 fin
      exact opv_loadN e1 (HK.out.below hG HK.out.lt) hs
    · refine owes_vt 10 true (Go.Op.call { callee := Go.Callee.value (Go.Operand.func 10), args := #[Go.Operand.tmp 55], argTypes := #[24] }) 9 [11] (by kernel_rfl) (by kernel_rfl) (by kernel_rfl) (fun _ _ h => h) (by rw [hsz]; kernel_rfl) (by kernel_rfl) rfl fun vals w1 ρ hG hF hρ hcst hfun => ?_
      have e55 : ρ (.tmp 55) = .agg arr := ((hρ 55).trans (slotJ [11] (by rw [hsz]; decide) (by kernel_rfl))).trans (hF 11 (by decide))
      clear hρ hF hcst sl1 sl2 sl4 sl5 sl6 sl7 sl8 sl9 sl10 sl11 sl12 sl13 sl14 fin
      exact opv_enter (by go_simp <;> rfl) (of_retN (HST.out w1))
    · refine owes_vt 10 true (Go.Op.binOp Go.BinOp.eql 9 (Go.Operand.tmp 56) (Go.Operand.const (Go.Value.string { data := #[97, 98] })) 9) 4 [12] (by kernel_rfl) (by kernel_rfl) (by kernel_rfl) (fun _ _ h => h) (by rw [hsz]; kernel_rfl) (by kernel_rfl) rfl fun vals w1 ρ hG hF hρ hcst hfun => ?_
      have e56 : ρ (.tmp 56) = .string ⟨#[97, 98]⟩ := ((hρ 56).trans (slotJ [12] (by rw [hsz]; decide) (by kernel_rfl))).trans (hF 12 (by decide))
      clear hρ hF hfun sl1 sl2 sl4 sl5 sl6 sl7 sl8 sl9 sl10 sl11 sl12 sl13 sl14 fin
      exact opv_val (by go_simp <;> rfl) ⟨gw_self _, rfl⟩
    · refine owes_v (Go.Op.pick (Go.Operand.tmp 54) (Go.Operand.tmp 57) (Go.Operand.const (Go.Value.bool false))) 4 [10, 13] (by kernel_rfl) (by kernel_rfl) (by kernel_rfl) rfl fun vals w1 ρ hG hF hρ hcst hfun => ?_
      have e54 : ρ (.tmp 54) = .bool true := ((hρ 54).trans (slotJ [10, 13] (by rw [hsz]; decide) (by kernel_rfl))).trans (hF 10 (by decide))
      have e57 : ρ (.tmp 57) = .bool true := ((hρ 57).trans (slotJ [10, 13] (by rw [hsz]; decide) (by kernel_rfl))).trans (hF 13 (by decide))
      clear hρ hF hfun sl1 sl2 sl4 sl5 sl6 sl7 sl8 sl9 sl10 sl11 sl12 sl13 sl14 fin
      exact opv_val (by go_simp <;> rfl) ⟨gw_self _, rfl⟩
    · exact owes_mvj 14 58 (by kernel_rfl) (by kernel_rfl) (by kernel_rfl) (by kernel_rfl) (by rw [hsz]; decide) (fun v w h => h)
    · refine owes_vt 15 true (Go.Op.indexAddr 24 (Go.Operand.tmp 1) (Go.Operand.const (Go.Value.int Go.IntKind.i64 0))) 0 [] (by kernel_rfl) (by kernel_rfl) (by kernel_rfl) (fun _ _ h => h) (by rw [hsz]; kernel_rfl) (by kernel_rfl) rfl fun vals w1 ρ hG hF hρ hcst hfun => ?_
      have e1 : ρ (.tmp 1) = .pointer (some ⟨g1, 0, none⟩) := ((hρ 1).trans (slotO [] (by kernel_rfl))).trans sl1
      clear hρ hF hfun sl1 sl2 sl4 sl5 sl6 sl7 sl8 sl9 sl10 sl11 sl12 sl13 sl14 fin
      exact opv_val (by go_simp <;> rfl) ⟨gw_self _, rfl⟩
    · refine owes_vt 15 true (Go.Op.load 5 (Go.Operand.tmp 60)) 5 [16] (by kernel_rfl) (by kernel_rfl) (by kernel_rfl) (fun _ _ h => h) (by rw [hsz]; kernel_rfl) (by kernel_rfl) rfl fun vals w1 ρ hG hF hρ hcst hfun => ?_
      have e60 : ρ (.tmp 60) = .pointer (some ⟨g1, 0, none⟩) := ((hρ 60).trans (slotJ [16] (by rw [hsz]; decide) (by kernel_rfl))).trans (hF 16 (by decide))
      have k0 := ((HK.out.below hG HK.out.lt).cell 0).trans hA0
      clear hρ hF hcst hfun sl1 sl2 sl4 sl5 sl6 sl7 sl8 sl9 sl10 sl11 sl12 sl13 sl14 fin
      exact opv_val (by go_simp <;> rfl) ⟨gw_self _, rfl⟩
    · refine owes_vt 15 true (Go.Op.binOp Go.BinOp.eql 5 (Go.Operand.tmp 61) (Go.Operand.const (Go.Value.int Go.IntKind.u8 97)) 5) 4 [17] (by kernel_rfl) (by kernel_rfl) (by kernel_rfl) (fun _ _ h => h) (by rw [hsz]; kernel_rfl) (by kernel_rfl) rfl fun vals w1 ρ hG hF hρ hcst hfun => ?_
      have e61 : ρ (.tmp 61) = .int .u8 97 := ((hρ 61).trans (slotJ [17] (by rw [hsz]; decide) (by kernel_rfl))).trans (hF 17 (by decide))
      clear hρ hF hfun sl1 sl2 sl4 sl5 sl6 sl7 sl8 sl9 sl10 sl11 sl12 sl13 sl14 fin
      exact opv_val (by go_simp <;> rfl) ⟨gw_self _, rfl⟩
    · refine owes_v (Go.Op.pick (Go.Operand.tmp 59) (Go.Operand.tmp 62) (Go.Operand.const (Go.Value.bool false))) 4 [15, 18] (by kernel_rfl) (by kernel_rfl) (by kernel_rfl) rfl fun vals w1 ρ hG hF hρ hcst hfun => ?_
      have e59 : ρ (.tmp 59) = .bool true := ((hρ 59).trans (slotJ [15, 18] (by rw [hsz]; decide) (by kernel_rfl))).trans (hF 15 (by decide))
      have e62 : ρ (.tmp 62) = .bool true := ((hρ 62).trans (slotJ [15, 18] (by rw [hsz]; decide) (by kernel_rfl))).trans (hF 18 (by decide))
      clear hρ hF hfun sl1 sl2 sl4 sl5 sl6 sl7 sl8 sl9 sl10 sl11 sl12 sl13 sl14 fin
      exact opv_val (by go_simp <;> rfl) ⟨gw_self _, rfl⟩
    · exact owes_mvj 19 63 (by kernel_rfl) (by kernel_rfl) (by kernel_rfl) (by kernel_rfl) (by rw [hsz]; decide) (fun v w h => h)
    · refine owes_vt 20 true (Go.Op.indexAddr 24 (Go.Operand.tmp 1) (Go.Operand.const (Go.Value.int Go.IntKind.i64 2))) 0 [] (by kernel_rfl) (by kernel_rfl) (by kernel_rfl) (fun _ _ h => h) (by rw [hsz]; kernel_rfl) (by kernel_rfl) rfl fun vals w1 ρ hG hF hρ hcst hfun => ?_
      have e1 : ρ (.tmp 1) = .pointer (some ⟨g1, 0, none⟩) := ((hρ 1).trans (slotO [] (by kernel_rfl))).trans sl1
      clear hρ hF hfun sl1 sl2 sl4 sl5 sl6 sl7 sl8 sl9 sl10 sl11 sl12 sl13 sl14 fin
      exact opv_val (by go_simp <;> rfl) ⟨gw_self _, rfl⟩
    · refine owes_vt 20 true (Go.Op.load 5 (Go.Operand.tmp 65)) 5 [21] (by kernel_rfl) (by kernel_rfl) (by kernel_rfl) (fun _ _ h => h) (by rw [hsz]; kernel_rfl) (by kernel_rfl) rfl fun vals w1 ρ hG hF hρ hcst hfun => ?_
      have e65 : ρ (.tmp 65) = .pointer (some ⟨g1, 2, none⟩) := ((hρ 65).trans (slotJ [21] (by rw [hsz]; decide) (by kernel_rfl))).trans (hF 21 (by decide))
      have k0 := ((HK.out.below hG HK.out.lt).cell 2).trans hA2
      clear hρ hF hcst hfun sl1 sl2 sl4 sl5 sl6 sl7 sl8 sl9 sl10 sl11 sl12 sl13 sl14 fin
      exact opv_val (by go_simp <;> rfl) ⟨gw_self _, rfl⟩
    · refine owes_vt 20 true (Go.Op.binOp Go.BinOp.eql 5 (Go.Operand.tmp 66) (Go.Operand.const (Go.Value.int Go.IntKind.u8 0)) 5) 4 [22] (by kernel_rfl) (by kernel_rfl) (by kernel_rfl) (fun _ _ h => h) (by rw [hsz]; kernel_rfl) (by kernel_rfl) rfl fun vals w1 ρ hG hF hρ hcst hfun => ?_
      have e66 : ρ (.tmp 66) = .int .u8 0 := ((hρ 66).trans (slotJ [22] (by rw [hsz]; decide) (by kernel_rfl))).trans (hF 22 (by decide))
      clear hρ hF hfun sl1 sl2 sl4 sl5 sl6 sl7 sl8 sl9 sl10 sl11 sl12 sl13 sl14 fin
      exact opv_val (by go_simp <;> rfl) ⟨gw_self _, rfl⟩
    · refine owes_v (Go.Op.pick (Go.Operand.tmp 64) (Go.Operand.tmp 67) (Go.Operand.const (Go.Value.bool false))) 4 [20, 23] (by kernel_rfl) (by kernel_rfl) (by kernel_rfl) rfl fun vals w1 ρ hG hF hρ hcst hfun => ?_
      have e64 : ρ (.tmp 64) = .bool true := ((hρ 64).trans (slotJ [20, 23] (by rw [hsz]; decide) (by kernel_rfl))).trans (hF 20 (by decide))
      have e67 : ρ (.tmp 67) = .bool true := ((hρ 67).trans (slotJ [20, 23] (by rw [hsz]; decide) (by kernel_rfl))).trans (hF 23 (by decide))
      clear hρ hF hfun sl1 sl2 sl4 sl5 sl6 sl7 sl8 sl9 sl10 sl11 sl12 sl13 sl14 fin
      exact opv_val (by go_simp <;> rfl) ⟨gw_self _, rfl⟩
    · exact owes_mvj 24 68 (by kernel_rfl) (by kernel_rfl) (by kernel_rfl) (by kernel_rfl) (by rw [hsz]; decide) (fun v w h => h)
    · refine owes_vt 25 true (Go.Op.move (Go.Operand.tmp 6)) 3 [] (by kernel_rfl) (by kernel_rfl) (by kernel_rfl) (fun _ _ h => h) (by rw [hsz]; kernel_rfl) (by kernel_rfl) rfl fun vals w1 ρ hG hF hρ hcst hfun => ?_
      have e6 : ρ (.tmp 6) = .int .i64 0 := ((hρ 6).trans (slotO [] (by kernel_rfl))).trans sl6
      clear hρ hF hcst hfun sl1 sl2 sl4 sl5 sl6 sl7 sl8 sl9 sl10 sl11 sl12 sl13 sl14 fin
      exact opv_val (by go_simp <;> rfl) ⟨gw_self _, rfl⟩
    · refine owes_vt 25 true (Go.Op.binOp Go.BinOp.eql 3 (Go.Operand.tmp 70) (Go.Operand.const (Go.Value.int Go.IntKind.i64 0)) 3) 4 [26] (by kernel_rfl) (by kernel_rfl) (by kernel_rfl) (fun _ _ h => h) (by rw [hsz]; kernel_rfl) (by kernel_rfl) rfl fun vals w1 ρ hG hF hρ hcst hfun => ?_
      have e70 : ρ (.tmp 70) = .int .i64 0 := ((hρ 70).trans (slotJ [26] (by rw [hsz]; decide) (by kernel_rfl))).trans (hF 26 (by decide))
      clear hρ hF hfun sl1 sl2 sl4 sl5 sl6 sl7 sl8 sl9 sl10 sl11 sl12 sl13 sl14 fin
      exact opv_val (by go_simp <;> rfl) ⟨gw_self _, rfl⟩
    · refine owes_v (Go.Op.pick (Go.Operand.tmp 69) (Go.Operand.tmp 71) (Go.Operand.const (Go.Value.bool false))) 4 [25, 27] (by kernel_rfl) (by kernel_rfl) (by kernel_rfl) rfl fun vals w1 ρ hG hF hρ hcst hfun => ?_
      have e69 : ρ (.tmp 69) = .bool true := ((hρ 69).trans (slotJ [25, 27] (by rw [hsz]; decide) (by kernel_rfl))).trans (hF 25 (by decide))
      have e71 : ρ (.tmp 71) = .bool true := ((hρ 71).trans (slotJ [25, 27] (by rw [hsz]; decide) (by kernel_rfl))).trans (hF 27 (by decide))
      clear hρ hF hfun sl1 sl2 sl4 sl5 sl6 sl7 sl8 sl9 sl10 sl11 sl12 sl13 sl14 fin
      exact opv_val (by go_simp <;> rfl) ⟨gw_self _, rfl⟩
    · exact owes_mvj 28 72 (by kernel_rfl) (by kernel_rfl) (by kernel_rfl) (by kernel_rfl) (by rw [hsz]; decide) (fun v w h => h)
    · refine owes_vt 29 true (Go.Op.move (Go.Operand.tmp 8)) 3 [] (by kernel_rfl) (by kernel_rfl) (by kernel_rfl) (fun _ _ h => h) (by rw [hsz]; kernel_rfl) (by kernel_rfl) rfl fun vals w1 ρ hG hF hρ hcst hfun => ?_
      have e8 : ρ (.tmp 8) = .int .i64 5 := ((hρ 8).trans (slotO [] (by kernel_rfl))).trans sl8
      clear hρ hF hcst hfun sl1 sl2 sl4 sl5 sl6 sl7 sl8 sl9 sl10 sl11 sl12 sl13 sl14 fin
      exact opv_val (by go_simp <;> rfl) ⟨gw_self _, rfl⟩
    · refine owes_vt 29 true (Go.Op.binOp Go.BinOp.eql 3 (Go.Operand.tmp 74) (Go.Operand.const (Go.Value.int Go.IntKind.i64 5)) 3) 4 [30] (by kernel_rfl) (by kernel_rfl) (by kernel_rfl) (fun _ _ h => h) (by rw [hsz]; kernel_rfl) (by kernel_rfl) rfl fun vals w1 ρ hG hF hρ hcst hfun => ?_
      have e74 : ρ (.tmp 74) = .int .i64 5 := ((hρ 74).trans (slotJ [30] (by rw [hsz]; decide) (by kernel_rfl))).trans (hF 30 (by decide))
      clear hρ hF hfun sl1 sl2 sl4 sl5 sl6 sl7 sl8 sl9 sl10 sl11 sl12 sl13 sl14 fin
      exact opv_val (by go_simp <;> rfl) ⟨gw_self _, rfl⟩
    · refine owes_v (Go.Op.pick (Go.Operand.tmp 73) (Go.Operand.tmp 75) (Go.Operand.const (Go.Value.bool false))) 4 [29, 31] (by kernel_rfl) (by kernel_rfl) (by kernel_rfl) rfl fun vals w1 ρ hG hF hρ hcst hfun => ?_
      have e73 : ρ (.tmp 73) = .bool true := ((hρ 73).trans (slotJ [29, 31] (by rw [hsz]; decide) (by kernel_rfl))).trans (hF 29 (by decide))
      have e75 : ρ (.tmp 75) = .bool true := ((hρ 75).trans (slotJ [29, 31] (by rw [hsz]; decide) (by kernel_rfl))).trans (hF 31 (by decide))
      clear hρ hF hfun sl1 sl2 sl4 sl5 sl6 sl7 sl8 sl9 sl10 sl11 sl12 sl13 sl14 fin
      exact opv_val (by go_simp <;> rfl) ⟨gw_self _, rfl⟩
    · exact owes_mvj 32 76 (by kernel_rfl) (by kernel_rfl) (by kernel_rfl) (by kernel_rfl) (by rw [hsz]; decide) (fun v w h => h)
    · refine owes_vt 33 true (Go.Op.move (Go.Operand.tmp 10)) 3 [] (by kernel_rfl) (by kernel_rfl) (by kernel_rfl) (fun _ _ h => h) (by rw [hsz]; kernel_rfl) (by kernel_rfl) rfl fun vals w1 ρ hG hF hρ hcst hfun => ?_
      have e10 : ρ (.tmp 10) = .int .i64 6 := ((hρ 10).trans (slotO [] (by kernel_rfl))).trans sl10
      clear hρ hF hcst hfun sl1 sl2 sl4 sl5 sl6 sl7 sl8 sl9 sl10 sl11 sl12 sl13 sl14 fin
      exact opv_val (by go_simp <;> rfl) ⟨gw_self _, rfl⟩
    · refine owes_vt 33 true (Go.Op.binOp Go.BinOp.eql 3 (Go.Operand.tmp 78) (Go.Operand.const (Go.Value.int Go.IntKind.i64 6)) 3) 4 [34] (by kernel_rfl) (by kernel_rfl) (by kernel_rfl) (fun _ _ h => h) (by rw [hsz]; kernel_rfl) (by kernel_rfl) rfl fun vals w1 ρ hG hF hρ hcst hfun => ?_
      have e78 : ρ (.tmp 78) = .int .i64 6 := ((hρ 78).trans (slotJ [34] (by rw [hsz]; decide) (by kernel_rfl))).trans (hF 34 (by decide))
      clear hρ hF hfun sl1 sl2 sl4 sl5 sl6 sl7 sl8 sl9 sl10 sl11 sl12 sl13 sl14 fin
      exact opv_val (by go_simp <;> rfl) ⟨gw_self _, rfl⟩
    · refine owes_v (Go.Op.pick (Go.Operand.tmp 77) (Go.Operand.tmp 79) (Go.Operand.const (Go.Value.bool false))) 4 [33, 35] (by kernel_rfl) (by kernel_rfl) (by kernel_rfl) rfl fun vals w1 ρ hG hF hρ hcst hfun => ?_
      have e77 : ρ (.tmp 77) = .bool true := ((hρ 77).trans (slotJ [33, 35] (by rw [hsz]; decide) (by kernel_rfl))).trans (hF 33 (by decide))
      have e79 : ρ (.tmp 79) = .bool true := ((hρ 79).trans (slotJ [33, 35] (by rw [hsz]; decide) (by kernel_rfl))).trans (hF 35 (by decide))
      clear hρ hF hfun sl1 sl2 sl4 sl5 sl6 sl7 sl8 sl9 sl10 sl11 sl12 sl13 sl14 fin
      exact opv_val (by go_simp <;> rfl) ⟨gw_self _, rfl⟩
    · exact owes_mvj 36 80 (by kernel_rfl) (by kernel_rfl) (by kernel_rfl) (by kernel_rfl) (by rw [hsz]; decide) (fun v w h => h)
    · refine owes_vt 37 true (Go.Op.move (Go.Operand.tmp 11)) 4 [] (by kernel_rfl) (by kernel_rfl) (by kernel_rfl) (fun _ _ h => h) (by rw [hsz]; kernel_rfl) (by kernel_rfl) rfl fun vals w1 ρ hG hF hρ hcst hfun => ?_
      have e11 : ρ (.tmp 11) = .bool true := ((hρ 11).trans (slotO [] (by kernel_rfl))).trans sl11
      clear hρ hF hcst hfun sl1 sl2 sl4 sl5 sl6 sl7 sl8 sl9 sl10 sl11 sl12 sl13 sl14 fin
      exact opv_val (by go_simp <;> rfl) ⟨gw_self _, rfl⟩
    · refine owes_v (Go.Op.pick (Go.Operand.tmp 81) (Go.Operand.tmp 82) (Go.Operand.const (Go.Value.bool false))) 4 [37, 38] (by kernel_rfl) (by kernel_rfl) (by kernel_rfl) rfl fun vals w1 ρ hG hF hρ hcst hfun => ?_
      have e81 : ρ (.tmp 81) = .bool true := ((hρ 81).trans (slotJ [37, 38] (by rw [hsz]; decide) (by kernel_rfl))).trans (hF 37 (by decide))
      have e82 : ρ (.tmp 82) = .bool true := ((hρ 82).trans (slotJ [37, 38] (by rw [hsz]; decide) (by kernel_rfl))).trans (hF 38 (by decide))
      clear hρ hF hfun sl1 sl2 sl4 sl5 sl6 sl7 sl8 sl9 sl10 sl11 sl12 sl13 sl14 fin
      exact opv_val (by go_simp <;> rfl) ⟨gw_self _, rfl⟩
    · exact owes_mvj 39 83 (by kernel_rfl) (by kernel_rfl) (by kernel_rfl) (by kernel_rfl) (by rw [hsz]; decide) (fun v w h => h)
    · refine owes_vt 40 true (Go.Op.move (Go.Operand.tmp 12)) 35 [] (by kernel_rfl) (by kernel_rfl) (by kernel_rfl) (fun _ _ h => h) (by rw [hsz]; kernel_rfl) (by kernel_rfl) rfl fun vals w1 ρ hG hF hρ hcst hfun => ?_
      have e12 : ρ (.tmp 12) = .slice (some ⟨q9, 0, none⟩) 1 c9 := ((hρ 12).trans (slotO [] (by kernel_rfl))).trans sl12
      clear hρ hF hcst hfun sl1 sl2 sl4 sl5 sl6 sl7 sl8 sl9 sl10 sl11 sl12 sl13 sl14 fin
      exact opv_val (by go_simp <;> rfl) ⟨gw_self _, rfl⟩
    · refine owes_vt 40 true (Go.Op.call { callee := Go.Callee.builtin Go.Builtin.len, args := #[Go.Operand.tmp 85], argTypes := #[35] }) 3 [41] (by kernel_rfl) (by kernel_rfl) (by kernel_rfl) (fun _ _ h => h) (by rw [hsz]; kernel_rfl) (by kernel_rfl) rfl fun vals w1 ρ hG hF hρ hcst hfun => ?_
      have e85 : ρ (.tmp 85) = .slice (some ⟨q9, 0, none⟩) 1 c9 := ((hρ 85).trans (slotJ [41] (by rw [hsz]; decide) (by kernel_rfl))).trans (hF 41 (by decide))
      clear hρ hF hcst hfun sl1 sl2 sl4 sl5 sl6 sl7 sl8 sl9 sl10 sl11 sl12 sl13 sl14 fin
      exact opv_val (by go_simp <;> rfl) ⟨gw_self _, rfl⟩
    · refine owes_vt 40 true (Go.Op.binOp Go.BinOp.eql 3 (Go.Operand.tmp 86) (Go.Operand.const (Go.Value.int Go.IntKind.i64 1)) 3) 4 [42] (by kernel_rfl) (by kernel_rfl) (by kernel_rfl) (fun _ _ h => h) (by rw [hsz]; kernel_rfl) (by kernel_rfl) rfl fun vals w1 ρ hG hF hρ hcst hfun => ?_
      have e86 : ρ (.tmp 86) = .int .i64 1 := ((hρ 86).trans (slotJ [42] (by rw [hsz]; decide) (by kernel_rfl))).trans (hF 42 (by decide))
      clear hρ hF hfun sl1 sl2 sl4 sl5 sl6 sl7 sl8 sl9 sl10 sl11 sl12 sl13 sl14 fin
      exact opv_val (by go_simp <;> rfl) ⟨gw_self _, rfl⟩
    · refine owes_v (Go.Op.pick (Go.Operand.tmp 84) (Go.Operand.tmp 87) (Go.Operand.const (Go.Value.bool false))) 4 [40, 43] (by kernel_rfl) (by kernel_rfl) (by kernel_rfl) rfl fun vals w1 ρ hG hF hρ hcst hfun => ?_
      have e84 : ρ (.tmp 84) = .bool true := ((hρ 84).trans (slotJ [40, 43] (by rw [hsz]; decide) (by kernel_rfl))).trans (hF 40 (by decide))
      have e87 : ρ (.tmp 87) = .bool true := ((hρ 87).trans (slotJ [40, 43] (by rw [hsz]; decide) (by kernel_rfl))).trans (hF 43 (by decide))
      clear hρ hF hfun sl1 sl2 sl4 sl5 sl6 sl7 sl8 sl9 sl10 sl11 sl12 sl13 sl14 fin
      exact opv_val (by go_simp <;> rfl) ⟨gw_self _, rfl⟩
    · exact owes_mvj 44 88 (by kernel_rfl) (by kernel_rfl) (by kernel_rfl) (by kernel_rfl) (by rw [hsz]; decide) (fun v w h => h)
    · refine owes_vt 45 true (Go.Op.move (Go.Operand.tmp 12)) 35 [] (by kernel_rfl) (by kernel_rfl) (by kernel_rfl) (fun _ _ h => h) (by rw [hsz]; kernel_rfl) (by kernel_rfl) rfl fun vals w1 ρ hG hF hρ hcst hfun => ?_
      have e12 : ρ (.tmp 12) = .slice (some ⟨q9, 0, none⟩) 1 c9 := ((hρ 12).trans (slotO [] (by kernel_rfl))).trans sl12
      clear hρ hF hcst hfun sl1 sl2 sl4 sl5 sl6 sl7 sl8 sl9 sl10 sl11 sl12 sl13 sl14 fin
      exact opv_val (by go_simp <;> rfl) ⟨gw_self _, rfl⟩
    · refine owes_vt 45 true (Go.Op.indexAddr 35 (Go.Operand.tmp 90) (Go.Operand.const (Go.Value.int Go.IntKind.i64 0))) 0 [46] (by kernel_rfl) (by kernel_rfl) (by kernel_rfl) (fun _ _ h => h) (by rw [hsz]; kernel_rfl) (by kernel_rfl) rfl fun vals w1 ρ hG hF hρ hcst hfun => ?_
      have e90 : ρ (.tmp 90) = .slice (some ⟨q9, 0, none⟩) 1 c9 := ((hρ 90).trans (slotJ [46] (by rw [hsz]; decide) (by kernel_rfl))).trans (hF 46 (by decide))
      clear hρ hF hfun sl1 sl2 sl4 sl5 sl6 sl7 sl8 sl9 sl10 sl11 sl12 sl13 sl14 fin
      exact opv_val (by go_simp <;> rfl) ⟨gw_self _, rfl⟩
    · refine owes_vt 45 true (Go.Op.fieldAddr 42 (Go.Operand.tmp 91) 0) 0 [47] (by kernel_rfl) (by kernel_rfl) (by kernel_rfl) (fun _ _ h => h) (by rw [hsz]; kernel_rfl) (by kernel_rfl) rfl fun vals w1 ρ hG hF hρ hcst hfun => ?_
      have e91 : ρ (.tmp 91) = .pointer (some ⟨q9, 0, none⟩) := ((hρ 91).trans (slotJ [47] (by rw [hsz]; decide) (by kernel_rfl))).trans (hF 47 (by decide))
      clear hρ hF hcst hfun sl1 sl2 sl4 sl5 sl6 sl7 sl8 sl9 sl10 sl11 sl12 sl13 sl14 fin
      exact opv_val (by go_simp <;> rfl) ⟨gw_self _, rfl⟩
    · refine owes_vt 45 true (Go.Op.load 9 (Go.Operand.tmp 92)) 9 [48] (by kernel_rfl) (by kernel_rfl) (by kernel_rfl) (fun _ _ h => h) (by rw [hsz]; kernel_rfl) (by kernel_rfl) rfl fun vals w1 ρ hG hF hρ hcst hfun => ?_
      have e92 : ρ (.tmp 92) = .pointer (some ⟨q9, 0, none⟩) := ((hρ 92).trans (slotJ [48] (by rw [hsz]; decide) (by kernel_rfl))).trans (hF 48 (by decide))
      have k0 := (hG.cell (p := ⟨q9, 0, none⟩) (cell_ltN HR.out.1)).trans HR.out.1
      clear hρ hF hcst hfun sl1 sl2 sl4 sl5 sl6 sl7 sl8 sl9 sl10 sl11 sl12 sl13 sl14 fin
      exact opv_val (by go_simp <;> rfl) ⟨gw_self _, rfl⟩
    · refine owes_vt 45 true (Go.Op.binOp Go.BinOp.eql 9 (Go.Operand.tmp 93) (Go.Operand.const (Go.Value.string { data := #[97, 98] })) 9) 4 [49] (by kernel_rfl) (by kernel_rfl) (by kernel_rfl) (fun _ _ h => h) (by rw [hsz]; kernel_rfl) (by kernel_rfl) rfl fun vals w1 ρ hG hF hρ hcst hfun => ?_
      have e93 : ρ (.tmp 93) = .string ⟨#[97, 98]⟩ := ((hρ 93).trans (slotJ [49] (by rw [hsz]; decide) (by kernel_rfl))).trans (hF 49 (by decide))
      clear hρ hF hfun sl1 sl2 sl4 sl5 sl6 sl7 sl8 sl9 sl10 sl11 sl12 sl13 sl14 fin
      exact opv_val (by go_simp <;> rfl) ⟨gw_self _, rfl⟩
    · refine owes_v (Go.Op.pick (Go.Operand.tmp 89) (Go.Operand.tmp 94) (Go.Operand.const (Go.Value.bool false))) 4 [45, 50] (by kernel_rfl) (by kernel_rfl) (by kernel_rfl) rfl fun vals w1 ρ hG hF hρ hcst hfun => ?_
      have e89 : ρ (.tmp 89) = .bool true := ((hρ 89).trans (slotJ [45, 50] (by rw [hsz]; decide) (by kernel_rfl))).trans (hF 45 (by decide))
      have e94 : ρ (.tmp 94) = .bool true := ((hρ 94).trans (slotJ [45, 50] (by rw [hsz]; decide) (by kernel_rfl))).trans (hF 50 (by decide))
      clear hρ hF hfun sl1 sl2 sl4 sl5 sl6 sl7 sl8 sl9 sl10 sl11 sl12 sl13 sl14 fin
      exact opv_val (by go_simp <;> rfl) ⟨gw_self _, rfl⟩
    · exact owes_mvj 51 95 (by kernel_rfl) (by kernel_rfl) (by kernel_rfl) (by kernel_rfl) (by rw [hsz]; decide) (fun v w h => h)
    · refine owes_vt 52 true (Go.Op.move (Go.Operand.tmp 12)) 35 [] (by kernel_rfl) (by kernel_rfl) (by kernel_rfl) (fun _ _ h => h) (by rw [hsz]; kernel_rfl) (by kernel_rfl) rfl fun vals w1 ρ hG hF hρ hcst hfun => ?_
      have e12 : ρ (.tmp 12) = .slice (some ⟨q9, 0, none⟩) 1 c9 := ((hρ 12).trans (slotO [] (by kernel_rfl))).trans sl12
      clear hρ hF hcst hfun sl1 sl2 sl4 sl5 sl6 sl7 sl8 sl9 sl10 sl11 sl12 sl13 sl14 fin
      exact opv_val (by go_simp <;> rfl) ⟨gw_self _, rfl⟩
    · refine owes_vt 52 true (Go.Op.indexAddr 35 (Go.Operand.tmp 97) (Go.Operand.const (Go.Value.int Go.IntKind.i64 0))) 0 [53] (by kernel_rfl) (by kernel_rfl) (by kernel_rfl) (fun _ _ h => h) (by rw [hsz]; kernel_rfl) (by kernel_rfl) rfl fun vals w1 ρ hG hF hρ hcst hfun => ?_
      have e97 : ρ (.tmp 97) = .slice (some ⟨q9, 0, none⟩) 1 c9 := ((hρ 97).trans (slotJ [53] (by rw [hsz]; decide) (by kernel_rfl))).trans (hF 53 (by decide))
      clear hρ hF hfun sl1 sl2 sl4 sl5 sl6 sl7 sl8 sl9 sl10 sl11 sl12 sl13 sl14 fin
      exact opv_val (by go_simp <;> rfl) ⟨gw_self _, rfl⟩
    · refine owes_vt 52 true (Go.Op.fieldAddr 42 (Go.Operand.tmp 98) 1) 0 [54] (by kernel_rfl) (by kernel_rfl) (by kernel_rfl) (fun _ _ h => h) (by rw [hsz]; kernel_rfl) (by kernel_rfl) rfl fun vals w1 ρ hG hF hρ hcst hfun => ?_
      have e98 : ρ (.tmp 98) = .pointer (some ⟨q9, 0, none⟩) := ((hρ 98).trans (slotJ [54] (by rw [hsz]; decide) (by kernel_rfl))).trans (hF 54 (by decide))
      clear hρ hF hcst hfun sl1 sl2 sl4 sl5 sl6 sl7 sl8 sl9 sl10 sl11 sl12 sl13 sl14 fin
      exact opv_val (by go_simp <;> rfl) ⟨gw_self _, rfl⟩
    · refine owes_vt 52 true (Go.Op.load 3 (Go.Operand.tmp 99)) 3 [55] (by kernel_rfl) (by kernel_rfl) (by kernel_rfl) (fun _ _ h => h) (by rw [hsz]; kernel_rfl) (by kernel_rfl) rfl fun vals w1 ρ hG hF hρ hcst hfun => ?_
      have e99 : ρ (.tmp 99) = .pointer (some ⟨q9, 1, none⟩) := ((hρ 99).trans (slotJ [55] (by rw [hsz]; decide) (by kernel_rfl))).trans (hF 55 (by decide))
      have k0 := (hG.cell (p := ⟨q9, 1, none⟩) (cell_ltN HR.out.2)).trans HR.out.2
      clear hρ hF hcst hfun sl1 sl2 sl4 sl5 sl6 sl7 sl8 sl9 sl10 sl11 sl12 sl13 sl14 fin
      exact opv_val (by go_simp <;> rfl) ⟨gw_self _, rfl⟩
    · refine owes_vt 52 true (Go.Op.binOp Go.BinOp.eql 3 (Go.Operand.tmp 100) (Go.Operand.const (Go.Value.int Go.IntKind.i64 6)) 3) 4 [56] (by kernel_rfl) (by kernel_rfl) (by kernel_rfl) (fun _ _ h => h) (by rw [hsz]; kernel_rfl) (by kernel_rfl) rfl fun vals w1 ρ hG hF hρ hcst hfun => ?_
      have e100 : ρ (.tmp 100) = .int .i64 6 := ((hρ 100).trans (slotJ [56] (by rw [hsz]; decide) (by kernel_rfl))).trans (hF 56 (by decide))
      clear hρ hF hfun sl1 sl2 sl4 sl5 sl6 sl7 sl8 sl9 sl10 sl11 sl12 sl13 sl14 fin
      exact opv_val (by go_simp <;> rfl) ⟨gw_self _, rfl⟩
    · refine owes_v (Go.Op.pick (Go.Operand.tmp 96) (Go.Operand.tmp 101) (Go.Operand.const (Go.Value.bool false))) 4 [52, 57] (by kernel_rfl) (by kernel_rfl) (by kernel_rfl) rfl fun vals w1 ρ hG hF hρ hcst hfun => ?_
      have e96 : ρ (.tmp 96) = .bool true := ((hρ 96).trans (slotJ [52, 57] (by rw [hsz]; decide) (by kernel_rfl))).trans (hF 52 (by decide))
      have e101 : ρ (.tmp 101) = .bool true := ((hρ 101).trans (slotJ [52, 57] (by rw [hsz]; decide) (by kernel_rfl))).trans (hF 57 (by decide))
      clear hρ hF hfun sl1 sl2 sl4 sl5 sl6 sl7 sl8 sl9 sl10 sl11 sl12 sl13 sl14 fin
      exact opv_val (by go_simp <;> rfl) ⟨gw_self _, rfl⟩
    · exact owes_mvj 58 102 (by kernel_rfl) (by kernel_rfl) (by kernel_rfl) (by kernel_rfl) (by rw [hsz]; decide) (fun v w h => h)
    · refine owes_vt 59 true (Go.Op.move (Go.Operand.tmp 13)) 3 [] (by kernel_rfl) (by kernel_rfl) (by kernel_rfl) (fun _ _ h => h) (by rw [hsz]; kernel_rfl) (by kernel_rfl) rfl fun vals w1 ρ hG hF hρ hcst hfun => ?_
      have e13 : ρ (.tmp 13) = .int .i64 6 := ((hρ 13).trans (slotO [] (by kernel_rfl))).trans sl13
      clear hρ hF hcst hfun sl1 sl2 sl4 sl5 sl6 sl7 sl8 sl9 sl10 sl11 sl12 sl13 sl14 fin
      exact opv_val (by go_simp <;> rfl) ⟨gw_self _, rfl⟩
    · refine owes_vt 59 true (Go.Op.binOp Go.BinOp.eql 3 (Go.Operand.tmp 104) (Go.Operand.const (Go.Value.int Go.IntKind.i64 6)) 3) 4 [60] (by kernel_rfl) (by kernel_rfl) (by kernel_rfl) (fun _ _ h => h) (by rw [hsz]; kernel_rfl) (by kernel_rfl) rfl fun vals w1 ρ hG hF hρ hcst hfun => ?_
      have e104 : ρ (.tmp 104) = .int .i64 6 := ((hρ 104).trans (slotJ [60] (by rw [hsz]; decide) (by kernel_rfl))).trans (hF 60 (by decide))
      clear hρ hF hfun sl1 sl2 sl4 sl5 sl6 sl7 sl8 sl9 sl10 sl11 sl12 sl13 sl14 fin
      exact opv_val (by go_simp <;> rfl) ⟨gw_self _, rfl⟩
    · refine owes_v (Go.Op.pick (Go.Operand.tmp 103) (Go.Operand.tmp 105) (Go.Operand.const (Go.Value.bool false))) 4 [59, 61] (by kernel_rfl) (by kernel_rfl) (by kernel_rfl) rfl fun vals w1 ρ hG hF hρ hcst hfun => ?_
      have e103 : ρ (.tmp 103) = .bool true := ((hρ 103).trans (slotJ [59, 61] (by rw [hsz]; decide) (by kernel_rfl))).trans (hF 59 (by decide))
      have e105 : ρ (.tmp 105) = .bool true := ((hρ 105).trans (slotJ [59, 61] (by rw [hsz]; decide) (by kernel_rfl))).trans (hF 61 (by decide))
      clear hρ hF hfun sl1 sl2 sl4 sl5 sl6 sl7 sl8 sl9 sl10 sl11 sl12 sl13 sl14 fin
      exact opv_val (by go_simp <;> rfl) ⟨gw_self _, rfl⟩
    · exact owes_mvj 62 106 (by kernel_rfl) (by kernel_rfl) (by kernel_rfl) (by kernel_rfl) (by rw [hsz]; decide) (fun v w h => h)
    · refine owes_vt 63 true (Go.Op.move (Go.Operand.tmp 14)) 4 [] (by kernel_rfl) (by kernel_rfl) (by kernel_rfl) (fun _ _ h => h) (by rw [hsz]; kernel_rfl) (by kernel_rfl) rfl fun vals w1 ρ hG hF hρ hcst hfun => ?_
      have e14 : ρ (.tmp 14) = .bool true := ((hρ 14).trans (slotO [] (by kernel_rfl))).trans sl14
      clear hρ hF hcst hfun sl1 sl2 sl4 sl5 sl6 sl7 sl8 sl9 sl10 sl11 sl12 sl13 sl14 fin
      exact opv_val (by go_simp <;> rfl) ⟨gw_self _, rfl⟩
    · refine owes_v (Go.Op.pick (Go.Operand.tmp 107) (Go.Operand.tmp 108) (Go.Operand.const (Go.Value.bool false))) 4 [63, 64] (by kernel_rfl) (by kernel_rfl) (by kernel_rfl) rfl fun vals w1 ρ hG hF hρ hcst hfun => ?_
      have e107 : ρ (.tmp 107) = .bool true := ((hρ 107).trans (slotJ [63, 64] (by rw [hsz]; decide) (by kernel_rfl))).trans (hF 63 (by decide))
      have e108 : ρ (.tmp 108) = .bool true := ((hρ 108).trans (slotJ [63, 64] (by rw [hsz]; decide) (by kernel_rfl))).trans (hF 64 (by decide))
      clear hρ hF hfun sl1 sl2 sl4 sl5 sl6 sl7 sl8 sl9 sl10 sl11 sl12 sl13 sl14 fin
      exact opv_val (by go_simp <;> rfl) ⟨gw_self _, rfl⟩
    · exact owes_mvj 65 109 (by kernel_rfl) (by kernel_rfl) (by kernel_rfl) (by kernel_rfl) (by rw [hsz]; decide) (fun v w h => h)
    · refine owes_vt 66 true (Go.Op.call { callee := Go.Callee.value (Go.Operand.func 19), args := #[Go.Operand.tmp 5], argTypes := #[34] }) 3 [] (by kernel_rfl) (by kernel_rfl) (by kernel_rfl) (fun _ _ h => h) (by rw [hsz]; kernel_rfl) (by kernel_rfl) rfl fun vals w1 ρ hG hF hρ hcst hfun => ?_
      have e5 : ρ (.tmp 5) = .pointer (some ⟨g, 0, none⟩) := ((hρ 5).trans (slotO [] (by kernel_rfl))).trans sl5
      clear hρ hF hcst sl1 sl2 sl4 sl5 sl6 sl7 sl8 sl9 sl10 sl11 sl12 sl13 sl14 fin
      exact opv_enter (by go_simp <;> rfl) ((len_c (HT.out.below hG)).mono fun _ _ h => ⟨_, h.1, by rw [h.2]; exact gw_self _, rfl⟩)
    · refine owes_vt 66 true (Go.Op.binOp Go.BinOp.eql 3 (Go.Operand.tmp 111) (Go.Operand.const (Go.Value.int Go.IntKind.i64 0)) 3) 4 [67] (by kernel_rfl) (by kernel_rfl) (by kernel_rfl) (fun _ _ h => h) (by rw [hsz]; kernel_rfl) (by kernel_rfl) rfl fun vals w1 ρ hG hF hρ hcst hfun => ?_
      have e111 : ρ (.tmp 111) = .int .i64 0 := ((hρ 111).trans (slotJ [67] (by rw [hsz]; decide) (by kernel_rfl))).trans (hF 67 (by decide))
      clear hρ hF hfun sl1 sl2 sl4 sl5 sl6 sl7 sl8 sl9 sl10 sl11 sl12 sl13 sl14 fin
      exact opv_val (by go_simp <;> rfl) ⟨gw_self _, rfl⟩
    · refine owes_v (Go.Op.pick (Go.Operand.tmp 110) (Go.Operand.tmp 112) (Go.Operand.const (Go.Value.bool false))) 4 [66, 68] (by kernel_rfl) (by kernel_rfl) (by kernel_rfl) rfl fun vals w1 ρ hG hF hρ hcst hfun => ?_
      have e110 : ρ (.tmp 110) = .bool true := ((hρ 110).trans (slotJ [66, 68] (by rw [hsz]; decide) (by kernel_rfl))).trans (hF 66 (by decide))
      have e112 : ρ (.tmp 112) = .bool true := ((hρ 112).trans (slotJ [66, 68] (by rw [hsz]; decide) (by kernel_rfl))).trans (hF 68 (by decide))
      clear hρ hF hfun sl1 sl2 sl4 sl5 sl6 sl7 sl8 sl9 sl10 sl11 sl12 sl13 sl14 fin
      exact opv_val (by go_simp <;> rfl) ⟨gw_self _, rfl⟩
    · exact owes_mvj 69 113 (by kernel_rfl) (by kernel_rfl) (by kernel_rfl) (by kernel_rfl) (by rw [hsz]; decide) (fun v w h => h)
  · intro vals w1 hG hF
    exact fin vals w1 hG (hF 70 (by decide +kernel))
theorem known19_c (w : World) : Calls Try.prog 7 #[] w (RetP (.bool true) w) := by
  obtain ⟨arr, harr⟩ : ∃ arr, arr = nC abN := ⟨_, rfl⟩
  obtain ⟨za, hza⟩ : ∃ za, za = nC zN := ⟨_, rfl⟩
  have hzero := zeroN
  rw [← hza] at hzero
  have HA := Lib.hid harr
  have HF1 := Lib.hid (fun W => by have := k19_f1 W; rw [← harr] at this; exact this)
  have HF2 := Lib.hid (fun W => by have := k19_f2 W; rw [← hza] at this; exact this)
  have HAS := Lib.hid (show arr.size = 32 from by rw [harr]; exact nC_size ab_w)
  have HAO := Lib.hid (show arr.all (·.oneCell') = true from by rw [harr]; exact nC_one abN)
  have HZS := Lib.hid (show za.size = 32 from by rw [hza]; exact nC_size zN_w)
  have HZO := Lib.hid (show za.all (·.oneCell') = true from by rw [hza]; exact nC_one zN)
  have HA0 := Lib.hid (show arr[0]? = some (.int .u8 97) from by rw [harr]; rfl)
  have HA2 := Lib.hid (show arr[2]? = some (.int .u8 0) from by rw [harr]; rfl)
  have HST := Lib.hid (fun W => by have := string_c W abN ab_w; rw [ab_cut, nV, ← harr] at this; exact this)
  clear harr hza
  go_enter Try.func7, Try.ntmps7
  go_wp2_with fail
  refine Calls.mono (HF1.out _) ?_
  rintro e w1 ⟨rfl, b1⟩
  have HB1 := Lib.hid b1
  have HN1 := Lib.hid (Bk.new w1 24 za)
  have HW1 := Lib.hid (Gw.alloc w1 (.cells za 24))
  clear b1
  go_wp2_with (refine wp_storeN rfl _ _ rfl w1.heap.size arr rfl rfl 24 za HN1.out HAS.out HZS.out HAO.out ?_; intro w2 k2 b2 o2; have HK2 := Lib.hid k2; have HB2 := Lib.hid ((HB1.out.trans (HW1.out.mono HB1.out.size)).trans (b2 w.heap.size HB1.out.size)); clear k2 b2 o2)
  refine Calls.mono (HF2.out _) ?_
  rintro e w3 ⟨rfl, b3⟩
  have HB3 := Lib.hid (HB2.out.trans (b3.mono HB2.out.size))
  have HK3 := Lib.hid (HK2.out.below b3 HK2.out.lt)
  have HN3 := Lib.hid (Bk.new w3 24 za)
  have HW3 := Lib.hid (Gw.alloc w3 (.cells za 24))
  clear b3 HB2 HK2 HN1 HW1 HB1
  go_wp2_with (first
    | (refine wp_storeN rfl _ _ rfl w3.heap.size za rfl rfl 24 za HN3.out HZS.out HZS.out HZO.out ?_; intro w4 k4 b4 o4; have HK4 := Lib.hid (show Bk w4 w1.heap.size 24 arr from (o4 _ (by have := HK3.out.lt; omega)).trans (HK3.out.below HW3.out HK3.out.lt)); have HB4 := Lib.hid ((HB3.out.trans (HW3.out.mono HB3.out.size)).trans (b4 w.heap.size HB3.out.size)); have HK5 := Lib.hid (HK4.out.alloc (.cells #[.map none] 34)); clear k4 b4 o4)
    | (refine wp_loadG rfl _ rfl w1.heap.size rfl 24 arr HK5.out HAS.out ?_))
  have HT5 := Lib.hid (TbX.new w4)
  have HB5 := Lib.hid (HB4.out.trans ((Gw.alloc w4 (.cells #[.map none] 34)).mono HB4.out.size))
  have HLT := Lib.hid (show w1.heap.size < w4.heap.size ∧ w.heap.size ≤ w4.heap.size from ⟨HK4.out.lt, HB4.out.size⟩)
  have HBI := Lib.hid (k19_b1 HT5.out (by simp))
  rw [← HA.out] at HBI
  obtain ⟨g, hg⟩ : ∃ g, g = w4.heap.size := ⟨_, rfl⟩
  rw [← hg] at HT5 HLT HBI ⊢
  clear hg HK3 HN3 HW3 HK4
  refine Calls.mono HBI.out ?_
  rintro e w6 ⟨rfl, t6, b6⟩
  have HT6 := Lib.hid t6
  have HK6 := Lib.hid (HK5.out.below b6 HLT.out.1)
  have HB6 := Lib.hid (HB5.out.trans (b6.mono HLT.out.2))
  have HBI6 := Lib.hid (k19_b2 t6 (Nat.le_of_lt t6.lt))
  rw [← HA.out] at HBI6
  clear t6 b6 HBI HT5 HK5 HB5
  go_wp2_with (refine wp_loadG rfl _ rfl w1.heap.size rfl 24 arr HK6.out HAS.out ?_)
  refine Calls.mono HBI6.out ?_
  rintro e w7 ⟨rfl, t7, b7⟩
  have HT7 := Lib.hid t7
  have HK7 := Lib.hid (HK6.out.below b7 HLT.out.1)
  have HB7 := Lib.hid (HB6.out.trans (b7.mono HLT.out.2))
  have HL7 := Lib.hid (k19_l t7)
  rw [← HA.out] at HL7
  clear t7 b7 HBI6 HT6 HK6 HB6
  go_wp2_with (refine wp_loadG rfl _ rfl w1.heap.size rfl 24 arr HK7.out HAS.out ?_)
  refine Calls.mono HL7.out ?_
  rintro e w8 ⟨rfl, b8'⟩
  have HT8 := Lib.hid (HT7.out.below b8')
  have HK8 := Lib.hid (HK7.out.below b8' HK7.out.lt)
  have HB8 := Lib.hid (HB7.out.trans (b8'.mono HB7.out.size))
  clear b8' HL7 HT7 HK7 HB7
  go_wp2_with fail
  refine Calls.mono (roots1_c abN ab_w 6 HT8.out ⟨#[97, 98]⟩ ab_cut.symm) ?_
  rintro e w9 ⟨v9, rfl, hv9, b9⟩
  obtain ⟨q9, c9, rfl, hge, r0, r1, hq9⟩ := hv9
  obtain ⟨mb, t1, t2, t3, t4⟩ := HT8.out
  have HT9 := Lib.hid (show Bk w9 g 34 #[.map mb] ∧ NmO w9 mb [(abN, 6)] ∧ ∀ b, mb = some b → b ≠ g from ⟨t1.below b9 t1.lt, t2.kept (Kept.of_below b9 (fun _ => False)) (fun _ _ f => f), fun b e => (t4 b e).2⟩)
  have HMB := Lib.hid (show ∀ c, mb = some c → g ≤ c ∧ c ≠ q9 from fun c e => ⟨(t4 c e).1, by have := t2.lt c e; omega⟩)
  have HK9 := Lib.hid (HK8.out.below b9 HK8.out.lt)
  have HB9 := Lib.hid (HB8.out.trans (b9.mono HB8.out.size))
  have HR9 := Lib.hid (And.intro r0 (And.intro r1 hq9))
  have HU := Lib.hid (k19_u HT9.out.1 HT9.out.2.1 HT9.out.2.2)
  rw [← HA.out] at HU
  clear r0 r1 hq9 b9 HT8 HK8 HB8 t1 t2 t3 t4 hge
  go_wp2_with (refine wp_loadG rfl _ rfl w1.heap.size rfl 24 arr HK9.out HAS.out ?_)
  refine Calls.mono HU.out ?_
  rintro e w10 ⟨rfl, t10, m10, k10⟩
  have HK10 := Lib.hid (k10.bk HK9.out (fun e => by have h1 := (HMB.out _ e).1; have h2 := HLT.out.1; omega))
  have r0 := (k10.cell (p := ⟨q9, 0, none⟩) HR9.out.2.2 (fun e => (HMB.out _ e).2 rfl)).trans HR9.out.1
  have r1 := (k10.cell (p := ⟨q9, 1, none⟩) HR9.out.2.2 (fun e => (HMB.out _ e).2 rfl)).trans HR9.out.2.1
  have HB10 := Lib.hid (HB9.out.trans (k10.below HB9.out.size (fun c e => Nat.le_trans HLT.out.2 (HMB.out c e).1)))
  have HT10 := Lib.hid (show TbX 0 w10 g [] from ⟨mb, t10, m10, Nat.zero_le _, fun b e => ⟨Nat.zero_le _, HT9.out.2.2 b e⟩⟩)
  have d0 : w10.cell? ⟨w1.heap.size, 0, none⟩ = some (.int .u8 97) := (HK10.out.cell 0).trans HA0.out
  have d2 : w10.cell? ⟨w1.heap.size, 2, none⟩ = some (.int .u8 0) := (HK10.out.cell 2).trans HA2.out
  clear t10 m10 k10 HU HT9 HK9 HB9 HR9 HMB HF1 HF2
  go_upto_region 9 with fail
  refine wp_region_lit ?_
  refine k19_end _ _ _ w1.heap.size q9 c9 g arr HAS.out HK10 (Lib.hid ⟨r0, r1⟩) HT10 HST HA0.out HA2.out _ _ (by kernel_rfl) (by kernel_rfl) ?_ ?_ ?_ ?_ ?_ ?_ ?_ ?_ ?_ ?_ ?_ ?_ ?_ ?_ ?_
  iterate 14 (· rfl)
  intro vals w11 hG h0
  unfold IsV at h0
  simp only [putD, Act.put, List.setIfInBounds_toArray, List.set_cons_zero, List.set_cons_succ, h0]
  have HB11 := Lib.hid (HB10.out.trans (hG.mono HB10.out.size))
  clear h0 hG
  go_wp2_with fail
  go_ret
  exact ⟨rfl, HB11.out⟩
end Go.Proofs.Ytdfhdgdhhgabbaa
/- Bind, precisely: which blocks it turns. Conditions: lengths. -/
namespace Go.Proofs.Ytdfhdgdhhgabbaa
set_option linter.unusedVariables false
set_option linter.unusedSimpArgs false
open Go.RowKit Go.Maps
set_option maxHeartbeats 1000000
set_option maxRecDepth 100000
/-- A table at block g over map mb. -/
structure TbM (w : World) (g : Nat) (mb : Option Nat) (m : Tb) : Prop where
  blk : Bk w g 34 #[.map mb]
  map : NmO w mb m
  ne : ∀ b, mb = some b → b ≠ g
def BnK (mb : Option Nat) (w : World) (g : Nat) (m : Tb) (v : Value) (e : Ending) (w' : World) : Prop := e = .returned v ∧ ∃ mb', TbM w' g mb' m ∧ (∀ b, mb' = some b → mb = some b ∨ w.heap.size ≤ b) ∧ Kept (fun c => c = g ∨ mb = some c) w w'
theorem Kept.transN {S S2 : Nat → Prop} {w w1 w2 : World} (h : Kept S w w1) (k : Kept S2 w1 w2) (hS : ∀ c, S2 c → S c ∨ w.heap.size ≤ c) : Kept S w w2 :=
  ⟨k.os.trans h.os, k.tape.trans h.tape, k.output.trans h.output, Nat.le_trans h.size k.size, fun i hi hn => (k.block i (Nat.lt_of_lt_of_le hi h.size) (fun h2 => (hS i h2).elim hn (fun h3 => by omega))).trans (h.block i hi hn)⟩
theorem bindK_a {B : Nat} {w : World} {g : Nat} (h1 : Bk w g 34 #[.map none]) (h2 : NmO w none []) (h3 : B ≤ g) (h4 : ∀ c, (none : Option Nat) = some c → B ≤ c ∧ c ≠ g) (hB : B ≤ w.heap.size) (bs : Nm) (hgd : goodN bs) (tz : Int) (ht : 1 ≤ tz) (ht2 : tz ≤ 9223372036854775807) (hm : ([] : Tb).length ≤ 100000) (x : Int) (hx : (vOf [] (padNm bs)).getD 0 = x) (ho : (vOf [] (padNm bs)).isSome = false) :
    Calls Try.prog 13 #[.pointer (some ⟨g, 0, none⟩), nV (padNm bs), .int .i64 tz] w (BnK none w g (setN [] (padNm bs) tz) (.tuple #[.int .i64 x, .int .i64 0])) := by
  have hk : nW (padNm bs) := padNm_w hgd.2.1
  have hl := h2.lkf hk
  rw [hx, ho] at hl
  have hs := nC_size hk
  have heq := eqN (padNm bs) (padNm bs) hk hk
  rw [show decide (padNm bs = padNm bs) = true from by simp] at heq
  have HM := Lib.hid (And.intro h2 (And.intro h3 h4))
  have HK := Lib.hid hk
  have HST := Lib.hid (fun W => string_c W (padNm bs) hk)
  have HFX := Lib.hid (fun W => fix_ok bs W hgd)
  rw [good_cut hgd] at HST
  have HONE := Lib.hid (nC_one (padNm bs))
  have HTO := Lib.hid (wfI (n := tz) (by omega) ht2)
  have HLEN := Lib.hid hm
  unfold nV at HST HFX ⊢
  obtain ⟨arr, harr⟩ : ∃ arr, arr = nC (padNm bs) := ⟨_, rfl⟩
  obtain ⟨st, hst⟩ : ∃ st, st = strB bs := ⟨_, rfl⟩
  rw [← harr] at hl hs HONE HST HFX heq ⊢
  rw [← hst] at HST HFX
  have HA := Lib.hid harr
  have HL := Lib.hid hl
  have HG := Lib.hid h1
  have HS := Lib.hid hs
  have HBB := Lib.hid hB
  obtain ⟨za, hza⟩ : ∃ za, za = nC zN := ⟨_, rfl⟩
  have hzero := zeroN
  rw [← hza] at hzero
  have HZS := Lib.hid (show za.size = 32 from by rw [hza]; exact nC_size zN_w)
  have q1 : decide (tz < 1) = false := by simp; omega
  clear hl hs harr hst h1 h2 h3 h4 hx ho hk hB hza hgd ht ht2 hm
  have HQ := Lib.hid (Bk.new w 24 arr)
  have HW := Lib.hid (Gw.alloc w (.cells arr 24))
  go_enter Try.func13, Try.ntmps13
  go_wp2_with (refine wp_loadG rfl _ rfl w.heap.size rfl 24 arr HQ.out HS.out ?_)
  refine Calls.mono (HST.out _) ?_
  rintro e w1 ⟨rfl, b1⟩
  have HQ1 := Lib.hid (HQ.out.below b1 HQ.out.lt)
  have HW1 := Lib.hid (HW.out.trans (b1.mono (by simp)))
  clear b1 HQ HW HST
  go_wp2_with fail
  refine Calls.mono (HFX.out _) ?_
  rintro e w2 ⟨rfl, b2⟩
  have HQ2 := Lib.hid (HQ1.out.below b2 HQ1.out.lt)
  have HW2 := Lib.hid (HW1.out.trans (b2.mono HW1.out.size))
  have HN2 := Lib.hid (show w.heap.size < w2.heap.size from Nat.lt_of_lt_of_le HQ1.out.lt b2.size)
  clear b2 HQ1 HW1 HFX
  have HR2 := Lib.hid (Bk.new w2 24 za)
  have HQ2a := Lib.hid (HQ2.out.alloc (.cells za 24))
  have HW2a := Lib.hid (HW2.out.trans ((Gw.alloc w2 (.cells za 24)).mono HW2.out.size))
  go_wp2_with (first
    | (refine wp_storeN rfl _ _ rfl w2.heap.size arr rfl rfl 24 za HR2.out HS.out HZS.out HONE.out ?_; intro w3 k3 b3 o3; have HR3 := Lib.hid k3; have HQ3 := Lib.hid (show Bk w3 w.heap.size 24 arr from (o3 _ (by have := HN2.out; omega)).trans HQ2a.out); have HW3 := Lib.hid (HW2a.out.trans (b3 w.heap.size (by have := HN2.out; omega))); clear k3 b3 o3)
    | (refine wp_loadG rfl _ rfl w2.heap.size rfl 24 arr HR3.out HS.out ?_)
    | (refine wp_loadG rfl _ rfl w.heap.size rfl 24 arr HQ3.out HS.out ?_))
  have HL3 := Lib.hid (show LkF w3 (none) arr x false from fun W hb => HL.out W (HW3.out.trans (hb.mono HW3.out.size)))
  refine bl_reg _ _ _ g w.heap.size (none) arr x false HS.out (HG.out.below HW3.out HG.out.lt) HQ3.out HL3 rfl rfl rfl ?_
  intro vals w4 hG h10 h11
  unfold IsV at h10 h11
  simp only [putD, Act.put, List.setIfInBounds_toArray, List.set_cons_zero, List.set_cons_succ, h10, h11]
  have HW4 := Lib.hid (HW3.out.trans (hG.mono HW3.out.size))
  have HQ4 := Lib.hid (HQ3.out.below hG HQ3.out.lt)
  clear h10 h11 hG HQ3 HR3 HL3 HL HQ2a HW2a HR2 HN2 HW2 HQ2
  have HG4 := Lib.hid (HG.out.below HW4.out HG.out.lt)
  have c0 := HG4.out.cell 0
  have HM4 := Lib.hid (HM.out.1.kept (Kept.of_below HW4.out (fun _ => False)) (fun _ _ f => f))
  have hlen := HM4.out.len
  obtain ⟨n, hn⟩ : ∃ n, n = ([] : Tb).length := ⟨_, rfl⟩
  rw [← hn] at hlen
  have hnl := True.intro
  have HNN := Lib.hid hn
  have HBW := Lib.hid (HW4.out.mono HBB.out)
  have HSZ := Lib.hid (Nat.le_trans HBB.out HW4.out.size)
  clear hn
  have q2 : decide ((64 : Int) ≤ (n : Int)) = false := by have := HNN.out; simp at this; subst this; rfl
  have z0 := HG4.out.free 0
  have l0 := HG4.out.lt
  have hvs : (w4.setCell ⟨g, 0, none⟩ (.map (some w4.heap.size))).heap.size = w4.heap.size := by simp [World.setCell]
  have HG5 := Lib.hid (show Bk ((w4.setCell ⟨g, 0, none⟩ (.map (some w4.heap.size))).alloc (.map #[] 0)) g 34 #[.map (some w4.heap.size)] from by
    have q := (HG4.out.set 0 (.map (some w4.heap.size))).alloc (.map #[] 0)
    simpa using q)
  have HQ5 := Lib.hid (show Bk ((w4.setCell ⟨g, 0, none⟩ (.map (some w4.heap.size))).alloc (.map #[] 0)) w.heap.size 24 arr from (HQ4.out.far (p := ⟨g, 0, none⟩) (by have := HG.out.lt; show w.heap.size ≠ g; omega) (.map (some w4.heap.size))).alloc (.map #[] 0))
  have HW5 := Lib.hid (show Below B w ((w4.setCell ⟨g, 0, none⟩ (.map (some w4.heap.size))).alloc (.map #[] 0)) from (HBW.out.setCell (p := ⟨g, 0, none⟩) HM.out.2.1 (.map (some w4.heap.size))).alloc (by rw [hvs]; exact HSZ.out) _)
  have HM5 := Lib.hid (show NmIs ((w4.setCell ⟨g, 0, none⟩ (.map (some w4.heap.size))).alloc (.map #[] 0)) w4.heap.size [] from by
    have q := NmIs.made (w4.setCell ⟨g, 0, none⟩ (.map (some w4.heap.size)))
    rw [hvs] at q
    exact q)
  have HK5 := Lib.hid (show Kept (fun c => c = g ∨ (none : Option Nat) = some c) w ((w4.setCell ⟨g, 0, none⟩ (.map (some w4.heap.size))).alloc (.map #[] 0)) from (Kept.of_below HW4.out _).trans (((Kept.set w4 g 0 _).more (fun c e => .inl e)).trans (Kept.alloc _ _ _)))
  clear hvs
  clear hnl
  have hmm := @run_makeMap Try.prog
  have heql : ∀ W, (binOp .eql 32 (.map none) (.map none)).run Try.prog W = .ok (.bool true) W := fun W => run_eql_map_nil W _ _ _ none Try.underlying32
  go_wp2_with fail
  refine bu_reg _ _ _ g w.heap.size w4.heap.size arr tz HS.out HG5.out HQ5.out rfl rfl rfl rfl ?_
  intro vals w6 hG h58 h59 h60
  unfold IsV at h58 h59 h60
  simp only [putD, Act.put, List.setIfInBounds_toArray, List.set_cons_zero, List.set_cons_succ, h58, h59, h60]
  have HM6 := Lib.hid (HM5.out.below hG)
  have HG6 := Lib.hid (HG5.out.below hG HG5.out.lt)
  have HBZ := Lib.hid (show B ≤ w6.heap.size from Nat.le_trans HSZ.out (Nat.le_of_lt HM6.out.lt))
  have HW6 := Lib.hid (HW5.out.trans (hG.mono (Nat.le_trans HSZ.out (Nat.le_of_lt HM5.out.lt))))
  have HK6 := Lib.hid (HK5.out.trans (Kept.of_below hG _))
  clear h58 h59 h60 hG heql hmm
  go_wp2_with (refine wp_putN rfl _ _ _ rfl rfl HM6.out (padNm bs) (by rw [nV, ← HA.out]; rfl) tz rfl HK.out HTO.out (by decide) ?_; intro w7 hm7 hk7; have HM7 := Lib.hid (And.intro hm7 hk7); clear hm7 hk7)
  go_ret2
  have hb := HM7.out.2
  have hgm : g ≠ w4.heap.size := by have := HG4.out.lt; omega
  exact ⟨rfl, some w4.heap.size, ⟨hb.bk HG6.out (fun e => by injection e with e; exact hgm e.symm), HM7.out.1, fun b e => by injection e with e; subst e; exact fun e => hgm e.symm⟩, fun b e => by injection e with e; subst e; exact .inr HW4.out.size, HK6.out.transN hb (fun c e => by injection e with e; subst e; exact .inr HW4.out.size)⟩
theorem bindK_b {B : Nat} {w : World} {g : Nat} {m : Tb} (b : Nat) (h1 : Bk w g 34 #[.map (some b)]) (h2 : NmO w (some b) m) (h3 : B ≤ g) (h4 : ∀ c, (some b) = some c → B ≤ c ∧ c ≠ g) (hB : B ≤ w.heap.size) (bs : Nm) (hgd : goodN bs) (tz : Int) (ht : 1 ≤ tz) (ht2 : tz ≤ 9223372036854775807) (hm : m.length ≤ 100000) (x : Int) (hx : (vOf m (padNm bs)).getD 0 = x) (ho : (vOf m (padNm bs)).isSome = false) (hnl : m.length < 64) :
    Calls Try.prog 13 #[.pointer (some ⟨g, 0, none⟩), nV (padNm bs), .int .i64 tz] w (BnK (some b) w g (setN m (padNm bs) tz) (.tuple #[.int .i64 x, .int .i64 0])) := by
  have hk : nW (padNm bs) := padNm_w hgd.2.1
  have hl := h2.lkf hk
  rw [hx, ho] at hl
  have hs := nC_size hk
  have heq := eqN (padNm bs) (padNm bs) hk hk
  rw [show decide (padNm bs = padNm bs) = true from by simp] at heq
  have HM := Lib.hid (And.intro h2 h3)
  have HBG := Lib.hid (h4 b rfl)
  have HK := Lib.hid hk
  have HST := Lib.hid (fun W => string_c W (padNm bs) hk)
  have HFX := Lib.hid (fun W => fix_ok bs W hgd)
  rw [good_cut hgd] at HST
  have HONE := Lib.hid (nC_one (padNm bs))
  have HTO := Lib.hid (wfI (n := tz) (by omega) ht2)
  have HLEN := Lib.hid hm
  unfold nV at HST HFX ⊢
  obtain ⟨arr, harr⟩ : ∃ arr, arr = nC (padNm bs) := ⟨_, rfl⟩
  obtain ⟨st, hst⟩ : ∃ st, st = strB bs := ⟨_, rfl⟩
  rw [← harr] at hl hs HONE HST HFX heq ⊢
  rw [← hst] at HST HFX
  have HA := Lib.hid harr
  have HL := Lib.hid hl
  have HG := Lib.hid h1
  have HS := Lib.hid hs
  have HBB := Lib.hid hB
  obtain ⟨za, hza⟩ : ∃ za, za = nC zN := ⟨_, rfl⟩
  have hzero := zeroN
  rw [← hza] at hzero
  have HZS := Lib.hid (show za.size = 32 from by rw [hza]; exact nC_size zN_w)
  have q1 : decide (tz < 1) = false := by simp; omega
  clear hl hs harr hst h1 h2 h3 h4 hx ho hk hB hza hgd ht ht2 hm
  have HQ := Lib.hid (Bk.new w 24 arr)
  have HW := Lib.hid (Gw.alloc w (.cells arr 24))
  go_enter Try.func13, Try.ntmps13
  go_wp2_with (refine wp_loadG rfl _ rfl w.heap.size rfl 24 arr HQ.out HS.out ?_)
  refine Calls.mono (HST.out _) ?_
  rintro e w1 ⟨rfl, b1⟩
  have HQ1 := Lib.hid (HQ.out.below b1 HQ.out.lt)
  have HW1 := Lib.hid (HW.out.trans (b1.mono (by simp)))
  clear b1 HQ HW HST
  go_wp2_with fail
  refine Calls.mono (HFX.out _) ?_
  rintro e w2 ⟨rfl, b2⟩
  have HQ2 := Lib.hid (HQ1.out.below b2 HQ1.out.lt)
  have HW2 := Lib.hid (HW1.out.trans (b2.mono HW1.out.size))
  have HN2 := Lib.hid (show w.heap.size < w2.heap.size from Nat.lt_of_lt_of_le HQ1.out.lt b2.size)
  clear b2 HQ1 HW1 HFX
  have HR2 := Lib.hid (Bk.new w2 24 za)
  have HQ2a := Lib.hid (HQ2.out.alloc (.cells za 24))
  have HW2a := Lib.hid (HW2.out.trans ((Gw.alloc w2 (.cells za 24)).mono HW2.out.size))
  go_wp2_with (first
    | (refine wp_storeN rfl _ _ rfl w2.heap.size arr rfl rfl 24 za HR2.out HS.out HZS.out HONE.out ?_; intro w3 k3 b3 o3; have HR3 := Lib.hid k3; have HQ3 := Lib.hid (show Bk w3 w.heap.size 24 arr from (o3 _ (by have := HN2.out; omega)).trans HQ2a.out); have HW3 := Lib.hid (HW2a.out.trans (b3 w.heap.size (by have := HN2.out; omega))); clear k3 b3 o3)
    | (refine wp_loadG rfl _ rfl w2.heap.size rfl 24 arr HR3.out HS.out ?_)
    | (refine wp_loadG rfl _ rfl w.heap.size rfl 24 arr HQ3.out HS.out ?_))
  have HL3 := Lib.hid (show LkF w3 ((some b)) arr x false from fun W hb => HL.out W (HW3.out.trans (hb.mono HW3.out.size)))
  refine bl_reg _ _ _ g w.heap.size ((some b)) arr x false HS.out (HG.out.below HW3.out HG.out.lt) HQ3.out HL3 rfl rfl rfl ?_
  intro vals w4 hG h10 h11
  unfold IsV at h10 h11
  simp only [putD, Act.put, List.setIfInBounds_toArray, List.set_cons_zero, List.set_cons_succ, h10, h11]
  have HW4 := Lib.hid (HW3.out.trans (hG.mono HW3.out.size))
  have HQ4 := Lib.hid (HQ3.out.below hG HQ3.out.lt)
  clear h10 h11 hG HQ3 HR3 HL3 HL HQ2a HW2a HR2 HN2 HW2 HQ2
  have HG4 := Lib.hid (HG.out.below HW4.out HG.out.lt)
  have c0 := HG4.out.cell 0
  have HM4 := Lib.hid (HM.out.1.kept (Kept.of_below HW4.out (fun _ => False)) (fun _ _ f => f))
  have hlen := HM4.out.len
  obtain ⟨n, hn⟩ : ∃ n, n = (m : Tb).length := ⟨_, rfl⟩
  rw [← hn] at hlen hnl
  have HNN := Lib.hid hn
  have HBW := Lib.hid (HW4.out.mono HBB.out)
  have HSZ := Lib.hid (Nat.le_trans HBB.out HW4.out.size)
  clear hn
  have q2 : decide ((64 : Int) ≤ (n : Int)) = false := by simp; omega
  clear hnl
  have heql : ∀ W, (binOp .eql 32 (.map (some b)) (.map none)).run Try.prog W = .ok (.bool false) W := fun W => run_eql_map_nil W _ _ _ (some b) Try.underlying32
  go_wp2_with fail
  refine bu_reg _ _ _ g w.heap.size b arr tz HS.out HG4.out HQ4.out rfl rfl rfl rfl ?_
  intro vals w6 hG h58 h59 h60
  unfold IsV at h58 h59 h60
  simp only [putD, Act.put, List.setIfInBounds_toArray, List.set_cons_zero, List.set_cons_succ, h58, h59, h60]
  have HM6 := Lib.hid (show NmIs w6 b m from NmIs.below HM4.out hG)
  have HG6 := Lib.hid (HG4.out.below hG HG4.out.lt)
  have HBZ := Lib.hid (Nat.le_trans HSZ.out hG.size)
  have HW6 := Lib.hid (HBW.out.trans (hG.mono HSZ.out))
  have HK6 := Lib.hid (show Kept (fun c => c = g ∨ (some b) = some c) w w6 from Kept.of_below (HW4.out.trans (hG.mono HW4.out.size)) _)
  clear h58 h59 h60 hG heql
  go_wp2_with (refine wp_putN rfl _ _ _ rfl rfl HM6.out (padNm bs) (by rw [nV, ← HA.out]; rfl) tz rfl HK.out HTO.out (by have := HLEN.out; omega) ?_; intro w7 hm7 hk7; have HM7 := Lib.hid (And.intro hm7 hk7); clear hm7 hk7)
  go_ret2
  have hb := HM7.out.2
  exact ⟨rfl, some b, ⟨hb.bk HG6.out (fun e => HBG.out.2 (by injection e)), HM7.out.1, fun c e => by injection e with e; subst e; exact HBG.out.2⟩, fun c e => .inl e, HK6.out.trans (hb.more (fun c e => .inr e))⟩
theorem bindK_d {B : Nat} {w : World} {g : Nat} {m : Tb} (b : Nat) (h1 : Bk w g 34 #[.map (some b)]) (h2 : NmO w (some b) m) (h3 : B ≤ g) (h4 : ∀ c, (some b) = some c → B ≤ c ∧ c ≠ g) (hB : B ≤ w.heap.size) (bs : Nm) (hgd : goodN bs) (tz : Int) (ht : 1 ≤ tz) (ht2 : tz ≤ 9223372036854775807) (hm : m.length ≤ 100000) (x : Int) (hx : (vOf m (padNm bs)).getD 0 = x) (ho : (vOf m (padNm bs)).isSome = true) :
    Calls Try.prog 13 #[.pointer (some ⟨g, 0, none⟩), nV (padNm bs), .int .i64 tz] w (BnK (some b) w g (setN m (padNm bs) tz) (.tuple #[.int .i64 x, .int .i64 0])) := by
  have hk : nW (padNm bs) := padNm_w hgd.2.1
  have hl := h2.lkf hk
  rw [hx, ho] at hl
  have hs := nC_size hk
  have heq := eqN (padNm bs) (padNm bs) hk hk
  rw [show decide (padNm bs = padNm bs) = true from by simp] at heq
  have HM := Lib.hid (And.intro h2 h3)
  have HBG := Lib.hid (h4 b rfl)
  have HK := Lib.hid hk
  have HST := Lib.hid (fun W => string_c W (padNm bs) hk)
  have HFX := Lib.hid (fun W => fix_ok bs W hgd)
  rw [good_cut hgd] at HST
  have HONE := Lib.hid (nC_one (padNm bs))
  have HTO := Lib.hid (wfI (n := tz) (by omega) ht2)
  have HLEN := Lib.hid hm
  unfold nV at HST HFX ⊢
  obtain ⟨arr, harr⟩ : ∃ arr, arr = nC (padNm bs) := ⟨_, rfl⟩
  obtain ⟨st, hst⟩ : ∃ st, st = strB bs := ⟨_, rfl⟩
  rw [← harr] at hl hs HONE HST HFX heq ⊢
  rw [← hst] at HST HFX
  have HA := Lib.hid harr
  have HL := Lib.hid hl
  have HG := Lib.hid h1
  have HS := Lib.hid hs
  have HBB := Lib.hid hB
  obtain ⟨za, hza⟩ : ∃ za, za = nC zN := ⟨_, rfl⟩
  have hzero := zeroN
  rw [← hza] at hzero
  have HZS := Lib.hid (show za.size = 32 from by rw [hza]; exact nC_size zN_w)
  have q1 : decide (tz < 1) = false := by simp; omega
  clear hl hs harr hst h1 h2 h3 h4 hx ho hk hB hza hgd ht ht2 hm
  have HQ := Lib.hid (Bk.new w 24 arr)
  have HW := Lib.hid (Gw.alloc w (.cells arr 24))
  go_enter Try.func13, Try.ntmps13
  go_wp2_with (refine wp_loadG rfl _ rfl w.heap.size rfl 24 arr HQ.out HS.out ?_)
  refine Calls.mono (HST.out _) ?_
  rintro e w1 ⟨rfl, b1⟩
  have HQ1 := Lib.hid (HQ.out.below b1 HQ.out.lt)
  have HW1 := Lib.hid (HW.out.trans (b1.mono (by simp)))
  clear b1 HQ HW HST
  go_wp2_with fail
  refine Calls.mono (HFX.out _) ?_
  rintro e w2 ⟨rfl, b2⟩
  have HQ2 := Lib.hid (HQ1.out.below b2 HQ1.out.lt)
  have HW2 := Lib.hid (HW1.out.trans (b2.mono HW1.out.size))
  have HN2 := Lib.hid (show w.heap.size < w2.heap.size from Nat.lt_of_lt_of_le HQ1.out.lt b2.size)
  clear b2 HQ1 HW1 HFX
  have HR2 := Lib.hid (Bk.new w2 24 za)
  have HQ2a := Lib.hid (HQ2.out.alloc (.cells za 24))
  have HW2a := Lib.hid (HW2.out.trans ((Gw.alloc w2 (.cells za 24)).mono HW2.out.size))
  go_wp2_with (first
    | (refine wp_storeN rfl _ _ rfl w2.heap.size arr rfl rfl 24 za HR2.out HS.out HZS.out HONE.out ?_; intro w3 k3 b3 o3; have HR3 := Lib.hid k3; have HQ3 := Lib.hid (show Bk w3 w.heap.size 24 arr from (o3 _ (by have := HN2.out; omega)).trans HQ2a.out); have HW3 := Lib.hid (HW2a.out.trans (b3 w.heap.size (by have := HN2.out; omega))); clear k3 b3 o3)
    | (refine wp_loadG rfl _ rfl w2.heap.size rfl 24 arr HR3.out HS.out ?_)
    | (refine wp_loadG rfl _ rfl w.heap.size rfl 24 arr HQ3.out HS.out ?_))
  have HL3 := Lib.hid (show LkF w3 ((some b)) arr x true from fun W hb => HL.out W (HW3.out.trans (hb.mono HW3.out.size)))
  refine bl_reg _ _ _ g w.heap.size ((some b)) arr x true HS.out (HG.out.below HW3.out HG.out.lt) HQ3.out HL3 rfl rfl rfl ?_
  intro vals w4 hG h10 h11
  unfold IsV at h10 h11
  simp only [putD, Act.put, List.setIfInBounds_toArray, List.set_cons_zero, List.set_cons_succ, h10, h11]
  have HW4 := Lib.hid (HW3.out.trans (hG.mono HW3.out.size))
  have HQ4 := Lib.hid (HQ3.out.below hG HQ3.out.lt)
  clear h10 h11 hG HQ3 HR3 HL3 HL HQ2a HW2a HR2 HN2 HW2 HQ2
  have HG4 := Lib.hid (HG.out.below HW4.out HG.out.lt)
  have c0 := HG4.out.cell 0
  have HM4 := Lib.hid (HM.out.1.kept (Kept.of_below HW4.out (fun _ => False)) (fun _ _ f => f))
  have hlen := HM4.out.len
  obtain ⟨n, hn⟩ : ∃ n, n = (m : Tb).length := ⟨_, rfl⟩
  rw [← hn] at hlen
  have hnl := True.intro
  have HNN := Lib.hid hn
  have HBW := Lib.hid (HW4.out.mono HBB.out)
  have HSZ := Lib.hid (Nat.le_trans HBB.out HW4.out.size)
  clear hn
  clear hnl
  have heql : ∀ W, (binOp .eql 32 (.map (some b)) (.map none)).run Try.prog W = .ok (.bool false) W := fun W => run_eql_map_nil W _ _ _ (some b) Try.underlying32
  go_wp2_with fail
  refine bu_reg _ _ _ g w.heap.size b arr tz HS.out HG4.out HQ4.out rfl rfl rfl rfl ?_
  intro vals w6 hG h58 h59 h60
  unfold IsV at h58 h59 h60
  simp only [putD, Act.put, List.setIfInBounds_toArray, List.set_cons_zero, List.set_cons_succ, h58, h59, h60]
  have HM6 := Lib.hid (show NmIs w6 b m from NmIs.below HM4.out hG)
  have HG6 := Lib.hid (HG4.out.below hG HG4.out.lt)
  have HBZ := Lib.hid (Nat.le_trans HSZ.out hG.size)
  have HW6 := Lib.hid (HBW.out.trans (hG.mono HSZ.out))
  have HK6 := Lib.hid (show Kept (fun c => c = g ∨ (some b) = some c) w w6 from Kept.of_below (HW4.out.trans (hG.mono HW4.out.size)) _)
  clear h58 h59 h60 hG heql
  go_wp2_with (refine wp_putN rfl _ _ _ rfl rfl HM6.out (padNm bs) (by rw [nV, ← HA.out]; rfl) tz rfl HK.out HTO.out (by have := HLEN.out; omega) ?_; intro w7 hm7 hk7; have HM7 := Lib.hid (And.intro hm7 hk7); clear hm7 hk7)
  go_ret2
  have hb := HM7.out.2
  exact ⟨rfl, some b, ⟨hb.bk HG6.out (fun e => HBG.out.2 (by injection e)), HM7.out.1, fun c e => by injection e with e; subst e; exact HBG.out.2⟩, fun c e => .inl e, HK6.out.trans (hb.more (fun c e => .inr e))⟩
theorem bindK_f {B : Nat} {w : World} {g : Nat} {m : Tb} (mb : Option Nat) (h1 : Bk w g 34 #[.map mb]) (h2 : NmO w mb m) (h3 : B ≤ g) (h4 : ∀ c, mb = some c → B ≤ c ∧ c ≠ g) (hB : B ≤ w.heap.size) (bs : Nm) (hgd : goodN bs) (tz : Int) (ht : 1 ≤ tz) (ht2 : tz ≤ 9223372036854775807) (hm : m.length ≤ 100000) (x : Int) (hx : (vOf m (padNm bs)).getD 0 = x) (ho : (vOf m (padNm bs)).isSome = false) (hnl : 64 ≤ m.length) :
    Calls Try.prog 13 #[.pointer (some ⟨g, 0, none⟩), nV (padNm bs), .int .i64 tz] w (RetP (.tuple #[.int .i64 0, .int .i64 6]) w) := by
  have hk : nW (padNm bs) := padNm_w hgd.2.1
  have hl := h2.lkf hk
  rw [hx, ho] at hl
  have hs := nC_size hk
  have heq := eqN (padNm bs) (padNm bs) hk hk
  rw [show decide (padNm bs = padNm bs) = true from by simp] at heq
  have HM := Lib.hid (And.intro h2 (And.intro h3 h4))
  have HK := Lib.hid hk
  have HST := Lib.hid (fun W => string_c W (padNm bs) hk)
  have HFX := Lib.hid (fun W => fix_ok bs W hgd)
  rw [good_cut hgd] at HST
  have HONE := Lib.hid (nC_one (padNm bs))
  have HTO := Lib.hid (wfI (n := tz) (by omega) ht2)
  have HLEN := Lib.hid hm
  unfold nV at HST HFX ⊢
  obtain ⟨arr, harr⟩ : ∃ arr, arr = nC (padNm bs) := ⟨_, rfl⟩
  obtain ⟨st, hst⟩ : ∃ st, st = strB bs := ⟨_, rfl⟩
  rw [← harr] at hl hs HONE HST HFX heq ⊢
  rw [← hst] at HST HFX
  have HA := Lib.hid harr
  have HL := Lib.hid hl
  have HG := Lib.hid h1
  have HS := Lib.hid hs
  have HBB := Lib.hid hB
  obtain ⟨za, hza⟩ : ∃ za, za = nC zN := ⟨_, rfl⟩
  have hzero := zeroN
  rw [← hza] at hzero
  have HZS := Lib.hid (show za.size = 32 from by rw [hza]; exact nC_size zN_w)
  have q1 : decide (tz < 1) = false := by simp; omega
  clear hl hs harr hst h1 h2 h3 h4 hx ho hk hB hza hgd ht ht2 hm
  have HQ := Lib.hid (Bk.new w 24 arr)
  have HW := Lib.hid (Gw.alloc w (.cells arr 24))
  go_enter Try.func13, Try.ntmps13
  go_wp2_with (refine wp_loadG rfl _ rfl w.heap.size rfl 24 arr HQ.out HS.out ?_)
  refine Calls.mono (HST.out _) ?_
  rintro e w1 ⟨rfl, b1⟩
  have HQ1 := Lib.hid (HQ.out.below b1 HQ.out.lt)
  have HW1 := Lib.hid (HW.out.trans (b1.mono (by simp)))
  clear b1 HQ HW HST
  go_wp2_with fail
  refine Calls.mono (HFX.out _) ?_
  rintro e w2 ⟨rfl, b2⟩
  have HQ2 := Lib.hid (HQ1.out.below b2 HQ1.out.lt)
  have HW2 := Lib.hid (HW1.out.trans (b2.mono HW1.out.size))
  have HN2 := Lib.hid (show w.heap.size < w2.heap.size from Nat.lt_of_lt_of_le HQ1.out.lt b2.size)
  clear b2 HQ1 HW1 HFX
  have HR2 := Lib.hid (Bk.new w2 24 za)
  have HQ2a := Lib.hid (HQ2.out.alloc (.cells za 24))
  have HW2a := Lib.hid (HW2.out.trans ((Gw.alloc w2 (.cells za 24)).mono HW2.out.size))
  go_wp2_with (first
    | (refine wp_storeN rfl _ _ rfl w2.heap.size arr rfl rfl 24 za HR2.out HS.out HZS.out HONE.out ?_; intro w3 k3 b3 o3; have HR3 := Lib.hid k3; have HQ3 := Lib.hid (show Bk w3 w.heap.size 24 arr from (o3 _ (by have := HN2.out; omega)).trans HQ2a.out); have HW3 := Lib.hid (HW2a.out.trans (b3 w.heap.size (by have := HN2.out; omega))); clear k3 b3 o3)
    | (refine wp_loadG rfl _ rfl w2.heap.size rfl 24 arr HR3.out HS.out ?_)
    | (refine wp_loadG rfl _ rfl w.heap.size rfl 24 arr HQ3.out HS.out ?_))
  have HL3 := Lib.hid (show LkF w3 (mb) arr x false from fun W hb => HL.out W (HW3.out.trans (hb.mono HW3.out.size)))
  refine bl_reg _ _ _ g w.heap.size (mb) arr x false HS.out (HG.out.below HW3.out HG.out.lt) HQ3.out HL3 rfl rfl rfl ?_
  intro vals w4 hG h10 h11
  unfold IsV at h10 h11
  simp only [putD, Act.put, List.setIfInBounds_toArray, List.set_cons_zero, List.set_cons_succ, h10, h11]
  have HW4 := Lib.hid (HW3.out.trans (hG.mono HW3.out.size))
  have HQ4 := Lib.hid (HQ3.out.below hG HQ3.out.lt)
  clear h10 h11 hG HQ3 HR3 HL3 HL HQ2a HW2a HR2 HN2 HW2 HQ2
  have HG4 := Lib.hid (HG.out.below HW4.out HG.out.lt)
  have c0 := HG4.out.cell 0
  have HM4 := Lib.hid (HM.out.1.kept (Kept.of_below HW4.out (fun _ => False)) (fun _ _ f => f))
  have hlen := HM4.out.len
  obtain ⟨n, hn⟩ : ∃ n, n = (m : Tb).length := ⟨_, rfl⟩
  rw [← hn] at hlen hnl
  have HNN := Lib.hid hn
  have HBW := Lib.hid (HW4.out.mono HBB.out)
  have HSZ := Lib.hid (Nat.le_trans HBB.out HW4.out.size)
  clear hn
  have q2 : decide ((64 : Int) ≤ (n : Int)) = true := by simp; omega
  clear hnl
  go_wp2_with fail
  go_ret2
  exact ⟨rfl, HW4.out⟩
theorem bindK_full {w : World} {g : Nat} {m : Tb} {mb : Option Nat} (h : TbM w g mb m) (bs : Nm) (hgd : goodN bs) (tz : Int) (ht : 1 ≤ tz) (ht2 : tz ≤ 9223372036854775807) (hm : m.length ≤ 100000) (ho : (vOf m (padNm bs)).isSome = false) (hl : 64 ≤ m.length) :
    Calls Try.prog 13 #[.pointer (some ⟨g, 0, none⟩), nV (padNm bs), .int .i64 tz] w (RetP (.tuple #[.int .i64 0, .int .i64 6]) w) := by
  obtain ⟨h1, h2, h4⟩ := h
  have h5 : ∀ c, mb = some c → 0 ≤ c ∧ c ≠ g := fun c e => ⟨Nat.zero_le _, h4 c e⟩
  exact bindK_f mb h1 h2 (Nat.zero_le _) h5 (Nat.zero_le _) bs hgd tz ht ht2 hm _ rfl ho hl
theorem bindK {w : World} {g : Nat} {m : Tb} {mb : Option Nat} (h : TbM w g mb m) (bs : Nm) (hgd : goodN bs) (tz : Int) (ht : 1 ≤ tz) (ht2 : tz ≤ 9223372036854775807) (hm : m.length ≤ 100000) (hf : (vOf m (padNm bs)).isSome = true ∨ m.length < 64) :
    Calls Try.prog 13 #[.pointer (some ⟨g, 0, none⟩), nV (padNm bs), .int .i64 tz] w (BnK mb w g (setN m (padNm bs) tz) (.tuple #[.int .i64 ((vOf m (padNm bs)).getD 0), .int .i64 0])) := by
  obtain ⟨h1, h2, h4⟩ := h
  have h5 : ∀ c, mb = some c → 0 ≤ c ∧ c ≠ g := fun c e => ⟨Nat.zero_le _, h4 c e⟩
  cases ho : (vOf m (padNm bs)).isSome with
  | true =>
    cases mb with
    | none =>
      have e : m = [] := h2
      subst e
      cases ho
    | some b => exact bindK_d b h1 h2 (Nat.zero_le _) h5 (Nat.zero_le _) bs hgd tz ht ht2 hm _ rfl ho
  | false =>
    have hlt : m.length < 64 := by
      rcases hf with e | e
      · rw [ho] at e; cases e
      · exact e
    cases mb with
    | none =>
      have e : m = [] := h2
      subst e
      exact bindK_a h1 h2 (Nat.zero_le _) h5 (Nat.zero_le _) bs hgd tz ht ht2 hm _ rfl ho
    | some b => exact bindK_b b h1 h2 (Nat.zero_le _) h5 (Nat.zero_le _) bs hgd tz ht ht2 hm _ rfl ho hlt
end Go.Proofs.Ytdfhdgdhhgabbaa
/- A table's Twin (maps.Clone at names). No conditions. -/
namespace Go.Proofs.Ytdfhdgdhhgabbaa
set_option linter.unusedVariables false
set_option linter.unusedSimpArgs false
open Go.RowKit Go.Maps Go.Shelf
set_option maxRecDepth 100000
set_option maxHeartbeats 1000000
def cloneT_ren : Go.Shelf.Ren := ⟨fun | 5 => 21 | 7 => 26 | n => n, fun | 23 => 32 | 25 => 24 | 3 => 3 | 4 => 4 | 20 => 20 | n => n, fun | n => n⟩
theorem cloneT : Go.Proofs.SlLaysW.n5 Try.prog cloneT_ren := {
  mixed := by kernel_rfl
  f5 := ⟨Try.f21.name, by decide, Try.func21.trans (congrArg some (by kernel_rfl))⟩
  f7 := Try.func26.trans (congrArg some (by kernel_rfl))
  t4 := Try.underlying4
  a4 := Try.isAgg4
  z4 := Try.sizeOf4
  v4 := Try.zeroValue4
  t20 := Try.underlying20
  a20 := Try.isAgg20
  z20 := Try.sizeOf20
  v20 := Try.zeroValue20
  t23 := Try.underlying32
  a23 := Try.isAgg32
  z23 := Try.sizeOf32
  v23 := Try.zeroValue32 }
theorem tclone_c (w : World) (b : Nat) (m : Tb) (h : NmIs w b m) : Calls Try.prog 21 #[.map (some b)] w fun e w' => e = .returned (.map (some w.heap.size)) ∧ NmIs w' w.heap.size m ∧ Below w.heap.size w w' := by
  obtain ⟨D, h1, h2⟩ := h
  have := AnyW.maps_Clone_owns cloneT 24 _ b m.length D w h1
  change Calls Try.prog 21 #[.map (some b)] w _ at this
  refine this.mono ?_
  rintro e w' ⟨rfl, e1, e2, e3⟩
  exact ⟨rfl, ⟨D, e1, h2⟩, e3⟩
theorem tclone_nil (w : World) : Calls Try.prog 21 #[.map none] w fun e w' => e = .returned (.map none) ∧ w' = w := by
  have := AnyW.maps_Clone_nil cloneT w
  change Calls Try.prog 21 #[.map none] w _ at this
  exact this
theorem twin_c {B : Nat} {w : World} {g : Nat} {m : Tb} (h : TbX B w g m) : Calls Try.prog 16 #[.pointer (some ⟨g, 0, none⟩)] w fun e w' => ∃ g', e = .returned (.pointer (some ⟨g', 0, none⟩)) ∧ TbX w.heap.size w' g' m ∧ Below w.heap.size w w' := by
  obtain ⟨mb, h1, h2, _, _⟩ := h
  have c0 := h1.cell 0
  have HM := Lib.hid h2
  clear h1 h2
  cases mb with
  | none =>
    obtain rfl : m = [] := HM.out
    clear HM
    go_enter Try.func16, Try.ntmps16
    go_wp2_with fail
    refine Calls.mono (tclone_nil w) ?_
    rintro e w1 ⟨rfl, rfl⟩
    go_wp2_with fail
    go_ret
    exact ⟨_, rfl, ⟨none, Bk.new _ _ _, rfl, Nat.le_refl _, fun b e => by cases e⟩, Gw.alloc _ _⟩
  | some b =>
    go_enter Try.func16, Try.ntmps16
    go_wp2_with fail
    refine Calls.mono (tclone_c w b m HM.out) ?_
    rintro e w1 ⟨rfl, h1, hb⟩
    have H1 := Lib.hid (And.intro h1 hb)
    clear h1 hb
    go_wp2_with fail
    go_ret
    obtain ⟨h1, hb⟩ := H1.out
    have hl := h1.lt
    exact ⟨_, rfl, ⟨some w.heap.size, Bk.new _ _ _, h1.below (Gw.alloc _ _), hb.size, fun b e => by injection e with e; omega⟩, hb.trans ((Gw.alloc _ _).mono hb.size)⟩
end Go.Proofs.Ytdfhdgdhhgabbaa
/- How an argument of a law is opened: numbers by their bounds, bytes as a list. No conditions. -/
namespace Go.Proofs.Ytdfhdgdhhgabbaa
set_option linter.unusedVariables false
set_option linter.unusedSimpArgs false
open Go.ChangeShapes Go.WideShapes Go.ChangeAt Go.RowKit
/-- A call that answers v; what was there ahead of it is as it was. -/
def TruP (v : Value) (w : World) (e : Ending) (w' : World) : Prop := e = .returned v ∧ Below w.heap.size w w'
theorem own : ownKnob Try.prog.godebug = none := by kernel_rfl
theorem laidOut : laidOutB Try.prog = true := by kernel_rfl
theorem cell_lt {w : World} {a : Addr} {v : Value} (h : w.cell? a = some v) : a.block < w.heap.size := by
  rcases Nat.lt_or_ge a.block w.heap.size with hl | hl
  · exact hl
  · unfold World.cell? at h; rw [Array.getElem?_eq_none hl] at h; cases h
theorem wfu8 {n : Int} (h : (Lit.int .u8 n).wf = true) : n = U8 (BitVec.ofInt 8 n) := by
  have : 0 ≤ n ∧ n ≤ 255 := by simpa [Lit.wf, IntKind.min, IntKind.max, IntKind.signed, IntKind.bits] using h
  exact U8_of this.1 (by omega)
end Go.Proofs.Ytdfhdgdhhgabbaa
/- How an argument that is a row of structs is opened. No conditions. -/
namespace Go.Proofs.Ytdfhdgdhhgabbaa
set_option linter.unusedVariables false
set_option linter.unusedSimpArgs false
open Go.ChangeShapes Go.WideShapes Go.ChangeAt Go.RowKit
section
variable {H : Type} {enc : TypeId × Value → H} {P : Program} {w : World} {base : Nat} {spare : Nat → Bool} {held : Bool} {r : Reach} {b0 : Nat}
theorem cell_int {k : IntKind} {n : Nat} {t : TypeId} {u : Value} {y : DataW H × List MemPlace} (ht : P.underlying t = some (.int k)) (h : DataW.trod enc P w base spare held n t [u] = some y) : ∃ a, u = .int k a ∧ (Lit.int k a).wf = true := by
  obtain ⟨a, h, _, hw⟩ := DataW.trod_int ht h
  exact ⟨a, by simpa using h, hw⟩
end
theorem choose_lst {α : Type} {p : Nat → α → Prop} : ∀ n : Nat, (∀ r, r < n → ∃ x, p r x) → ∃ l : List α, l.length = n ∧ ∀ r (h : r < l.length), p r l[r]
  | 0, _ => ⟨[], rfl, fun r h => absurd h (by simp)⟩
  | n + 1, h => by
    obtain ⟨l, hl, hp⟩ := choose_lst n fun r hr => h r (by omega)
    obtain ⟨x, hx⟩ := h n (by omega)
    refine ⟨l ++ [x], by simp [hl], fun r hr => ?_⟩
    rw [List.getElem_append]
    split
    · exact hp r _
    · have : r = n := by simp at hr; omega
      subst this
      simpa using hx
theorem num8 : ∀ z : Int, (Lit.int .u8 z).wf = true → ∃ a : BitVec 8, b8 a = .int .u8 z := fun z h => ⟨_, by unfold b8; rw [← wfu8 h]⟩
set_option maxRecDepth 100000
theorem add_far (a : Addr) (m j : Nat) : a.add (m + (j + 1)) = ⟨(a.add m).block, (a.add m).off + (j + 1), none⟩ := by
  rw [← add_add']
  rfl
/-- One of CodeBack's items. -/
structure Itm where
  op : Int
  u : BitVec 64
  i : BitVec 64
  ba : Option Addr
  bb : List (BitVec 8)
  bc : Nat
  wa : Option Addr
  ww : List (BitVec 64)
  wc : Nat
structure ItmAt (W : World) (B : Nat) (ad : Addr) (k : Nat) (x : Itm) : Prop where
  blk : ad.block < B
  op : W.cell? (ad.add (k * 5)) = some (.int .i64 x.op)
  u : W.cell? ⟨(ad.add (k * 5)).block, (ad.add (k * 5)).off + 1, none⟩ = some (.int .u64 (U64 x.u))
  i : W.cell? ⟨(ad.add (k * 5)).block, (ad.add (k * 5)).off + 2, none⟩ = some (.int .i64 (I64 x.i))
  b : W.cell? ⟨(ad.add (k * 5)).block, (ad.add (k * 5)).off + 3, none⟩ = some (.slice x.ba x.bb.length x.bc)
  w : W.cell? ⟨(ad.add (k * 5)).block, (ad.add (k * 5)).off + 4, none⟩ = some (.slice x.wa x.ww.length x.wc)
  bbc : x.bb.length ≤ x.bc
  wwc : x.ww.length ≤ x.wc
  br : Rd b8 W B x.ba x.bb
  wr : Rd (fun a => Value.int .u64 (U64 a)) W B x.wa x.ww
def Its (W : World) (B : Nat) (A : Option Addr) (l : List Itm) : Prop := ∀ k (h : k < l.length), ∃ ad, A = some ad ∧ ItmAt W B ad k l[k]
/-- One of MemPlays' acts. -/
structure Ac where
  op : Int
  at_ : Int
  fr : Int
  n : Int
  u : BitVec 64
  ba : Option Addr
  bb : List (BitVec 8)
  bc : Nat
structure AcAt (W : World) (B : Nat) (ad : Addr) (k : Nat) (x : Ac) : Prop where
  blk : ad.block < B
  op : W.cell? (ad.add (k * 6)) = some (.int .i64 x.op)
  at_ : W.cell? ⟨(ad.add (k * 6)).block, (ad.add (k * 6)).off + 1, none⟩ = some (.int .i64 x.at_)
  fr : W.cell? ⟨(ad.add (k * 6)).block, (ad.add (k * 6)).off + 2, none⟩ = some (.int .i64 x.fr)
  n : W.cell? ⟨(ad.add (k * 6)).block, (ad.add (k * 6)).off + 3, none⟩ = some (.int .i64 x.n)
  u : W.cell? ⟨(ad.add (k * 6)).block, (ad.add (k * 6)).off + 4, none⟩ = some (.int .u64 (U64 x.u))
  b : W.cell? ⟨(ad.add (k * 6)).block, (ad.add (k * 6)).off + 5, none⟩ = some (.slice x.ba x.bb.length x.bc)
  w0 : (Lit.int .i64 x.op).wf = true
  w1 : (Lit.int .i64 x.at_).wf = true
  w2 : (Lit.int .i64 x.fr).wf = true
  w3 : (Lit.int .i64 x.n).wf = true
  bbc : x.bb.length ≤ x.bc
  bcm : x.bc ≤ maxLen
  br : Rd b8 W B x.ba x.bb
def Acs (W : World) (B : Nat) (A : Option Addr) (l : List Ac) : Prop := ∀ k (h : k < l.length), ∃ ad, A = some ad ∧ AcAt W B ad k l[k]
theorem Acs.below {W W' : World} {B : Nat} {A : Option Addr} {l : List Ac} (h : Acs W B A l) (hb : Below B W W') : Acs W' B A l := fun k hk => by
  obtain ⟨ad, e, m⟩ := h k hk
  have hbk : (ad.add (k * 6)).block < B := by rw [add_block]; exact m.blk
  have c : ∀ j, W'.cell? ⟨(ad.add (k * 6)).block, (ad.add (k * 6)).off + j, none⟩ = W.cell? ⟨(ad.add (k * 6)).block, (ad.add (k * 6)).off + j, none⟩ := fun j => hb.cell (p := ⟨(ad.add (k * 6)).block, (ad.add (k * 6)).off + j, none⟩) hbk
  exact ⟨ad, e, m.blk, (hb.cell hbk).trans m.op, (c _).trans m.at_, (c _).trans m.fr, (c _).trans m.n, (c _).trans m.u, (c _).trans m.b, m.w0, m.w1, m.w2, m.w3, m.bbc, m.bcm, m.br.below hb⟩
end Go.Proofs.Ytdfhdgdhhgabbaa
/- How a row of TablePlays' acts is opened: a number, a name of 32 bytes, a number. No conditions. -/
namespace Go.Proofs.Ytdfhdgdhhgabbaa
set_option linter.unusedVariables false
set_option linter.unusedSimpArgs false
open Go.ChangeShapes Go.WideShapes Go.ChangeAt Go.RowKit
set_option maxRecDepth 100000
theorem nm_of {H : Type} {enc : TypeId × Value → H} {w : World} {base : Nat} {spare : Nat → Bool} {held : Bool} {n : Nat} {cs : List Value} {y : DataW H × List MemPlace} (h : DataW.trod enc Try.prog w base spare held n 24 cs = some y) : ∃ k : Nm, nW k ∧ cs = k.map b8 := by
  obtain ⟨xs, m, _, _, hcl, hxl, hf⟩ := DataW.trod_array Try.underlying24 h
  have hc : cs.length = 32 := by rw [hcl, cells32]
  obtain ⟨k, hk, hp⟩ := choose_lst (α := BitVec 8) (p := fun i b => cs[i]? = some (b8 b)) 32 (fun i hi => by
    have h1 := hf i hi
    have hi2 : i < cs.length := by omega
    rw [show Try.prog.cellsOf 5 = 1 from cells1, Nat.mul_one, List.drop_eq_getElem_cons hi2, List.take_succ_cons, List.take_zero, List.getElem?_eq_getElem (by omega)] at h1
    obtain ⟨z, hz, wz⟩ := cell_int (k := .u8) (by kernel_rfl) h1
    obtain ⟨b, hb⟩ := num8 z wz
    exact ⟨b, by rw [List.getElem?_eq_getElem hi2, hz, hb]⟩)
  refine ⟨k, hk, ?_⟩
  apply List.ext_getElem?
  intro i
  by_cases hi : i < 32
  · rw [hp i (by omega), List.getElem?_map, List.getElem?_eq_getElem (by omega)]
    rfl
  · rw [List.getElem?_eq_none (by omega), List.getElem?_eq_none (by rw [List.length_map]; omega)]
/-- One of TablePlays' acts. -/
structure Na where
  op : Int
  nm : Nm
  to_ : Int
structure NaAt (W : World) (B : Nat) (ad : Addr) (k : Nat) (x : Na) : Prop where
  blk : ad.block < B
  wide : nW x.nm
  op : W.cell? (ad.add (k * 34)) = some (.int .i64 x.op)
  nm : ∀ j u, (x.nm.map b8)[j]? = some u → W.cell? ⟨(ad.add (k * 34)).block, (ad.add (k * 34)).off + (j + 1), none⟩ = some u
  to_ : W.cell? ⟨(ad.add (k * 34)).block, (ad.add (k * 34)).off + 33, none⟩ = some (.int .i64 x.to_)
  w0 : (Lit.int .i64 x.op).wf = true
  w1 : (Lit.int .i64 x.to_).wf = true
theorem NaAt.below {W W' : World} {B k : Nat} {ad : Addr} {x : Na} (m : NaAt W B ad k x) (hb : Below B W W') : NaAt W' B ad k x := by
  have hbk : (ad.add (k * 34)).block < B := by rw [add_block]; exact m.blk
  have c : ∀ j, W'.cell? ⟨(ad.add (k * 34)).block, (ad.add (k * 34)).off + j, none⟩ = W.cell? ⟨(ad.add (k * 34)).block, (ad.add (k * 34)).off + j, none⟩ := fun j => hb.cell (p := ⟨(ad.add (k * 34)).block, (ad.add (k * 34)).off + j, none⟩) hbk
  exact ⟨m.blk, m.wide, (hb.cell hbk).trans m.op, fun j u hu => (c _).trans (m.nm j u hu), (c _).trans m.to_, m.w0, m.w1⟩
def Nas (W : World) (B : Nat) (A : Option Addr) (l : List Na) : Prop := ∀ k (h : k < l.length), ∃ ad, A = some ad ∧ NaAt W B ad k l[k]
theorem open_rows_Act {H : Type} {enc : TypeId × Value → H} {W : World} {base : Nat} {sp : Nat → Bool} {hd : Bool} {r : Reach} {b0 : Nat} {v : Value} {d : DataW H} {p : List MemPlace}
    (hv : Value.okWide Try.prog W r b0 30 v) (h : DataW.Trod enc Try.prog W base sp hd 30 v d p) :
    ∃ (A : Option Addr) (l : List Na) (c : Nat), v = .slice A l.length c ∧ l.length ≤ c ∧ c ≤ maxLen ∧ Nas W W.heap.size A l := by
  have he := Try.underlying37
  have hC : Try.prog.cellsOf 37 = 34 := by kernel_rfl
  obtain ⟨a0, len, cap, rfl⟩ := okWide_slice Try.underlying30 hv
  obtain ⟨fuel, hf⟩ := h
  rcases Go.Deep.open_slice Try.underlying30 hf with ⟨hcs, _⟩ | ⟨a, len', cap', m, n', D, Pl, hcs, hb, hl, hm, hmm, hx, hrow⟩
  · simp [Value.cells] at hcs
    obtain ⟨rfl, rfl, rfl⟩ := hcs
    exact ⟨none, [], 0, rfl, Nat.le_refl _, by simp [maxLen], fun i hi => absurd hi (by simp)⟩
  · simp [Value.cells] at hcs
    obtain ⟨rfl, rfl, rfl⟩ := hcs
    obtain ⟨l, hll, hp⟩ := choose_lst (α := Na) (p := fun k x => NaAt W W.heap.size a k x) len (fun i hi => by
      obtain ⟨cs', h1, h2⟩ := hrow i (by rw [hmm]; split <;> omega)
      obtain ⟨_, hlen, hcell⟩ := World.cells?_some h1
      obtain ⟨xs, n2, _, _, hl2, hlen2, hfs⟩ := DataW.trod_struct he h2
      have hl34 : cs'.length = 34 := by omega
      have f0 : DataW.trod enc Try.prog W base sp hd n2 3 ((cs'.drop 0).take (Try.prog.cellsOf 3)) = xs[0]? := hfs 0 _ rfl
      have f1 : DataW.trod enc Try.prog W base sp hd n2 24 ((cs'.drop 1).take (Try.prog.cellsOf 24)) = xs[1]? := hfs 1 _ rfl
      have f2 : DataW.trod enc Try.prog W base sp hd n2 3 ((cs'.drop 33).take (Try.prog.cellsOf 3)) = xs[2]? := hfs 2 _ rfl
      have hx3 : xs.length = 3 := hlen2
      rw [List.getElem?_eq_getElem (by omega)] at f0 f1 f2
      rw [show Try.prog.cellsOf 3 = 1 from by kernel_rfl, List.drop_eq_getElem_cons (by omega), List.take_succ_cons, List.take_zero] at f0 f2
      rw [cells32] at f1
      obtain ⟨op, e0, w0⟩ := cell_int (k := .i64) (by kernel_rfl) f0
      obtain ⟨t, e2, w2⟩ := cell_int (k := .i64) (by kernel_rfl) f2
      obtain ⟨k, hk, e1⟩ := nm_of f1
      rw [hC] at hcell
      have hblk : (a.add (i * 34)).block < W.heap.size := by
        have h5 := hcell 0 (by omega)
        rw [List.getElem?_eq_getElem (by omega)] at h5
        have h6 := cell_lt h5
        rw [add_block] at h6
        exact h6
      refine ⟨⟨op, k, t⟩, by rw [add_block] at hblk; exact hblk, hk, ?_, fun j u hu => ?_, ?_, w0, w2⟩
      · have h5 := hcell 0 (by omega)
        rw [List.getElem?_eq_getElem (by omega), e0, add_add', Nat.add_zero] at h5
        exact h5
      · have hj : j < 32 := by
          have := (List.getElem?_eq_some_iff.1 hu).1
          rw [List.length_map, show k.length = 32 from hk] at this
          exact this
        have h5 := hcell (j + 1) (by omega)
        have h6 : (List.take 32 (cs'.drop 1))[j]? = some u := by rw [e1]; exact hu
        rw [List.getElem?_take_of_lt hj, List.getElem?_drop, Nat.add_comm] at h6
        rw [h6, add_add', add_far] at h5
        exact h5
      · have h5 := hcell 33 (by omega)
        rw [List.getElem?_eq_getElem (by omega), e2, add_add', add_far] at h5
        exact h5)
    exact ⟨some a, l, cap, by rw [hll], by omega, hm, fun k hk => ⟨a, rfl, hp k hk⟩⟩
end Go.Proofs.Ytdfhdgdhhgabbaa
