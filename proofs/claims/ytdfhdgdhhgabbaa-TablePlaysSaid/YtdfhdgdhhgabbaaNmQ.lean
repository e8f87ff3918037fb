/- table.compare; slices.SortFunc at rows of names. Conditions: lengths. -/
import Derived.Test.YtdfhdgdhhgabbaaNmP
import Derived.Test.YtdfhdgdhhgabbaaNmJ
import Derived.Test.YtdfhdgdhhgabbaaLaid19
import Derived.Test.YtdfhdgdhhgabbaaRegX
namespace Go.Proofs.Ytdfhdgdhhgabbaa
set_option linter.unusedVariables false
set_option linter.unusedSimpArgs false
open Go.RowKit Go.Maps Go.Sort Go.Shelf
set_option maxRecDepth 100000
set_option maxHeartbeats 2000000
instance instNW : Inhabited NW := ⟨⟨zN, zN_w⟩⟩
def cN (x : NW) : List Value := x.1.map b8
def cmpW (p q : NW) : Int := cmpB p.1 q.1
theorem ltW (p q : NW) : ltOf cmpW p q = decide (cmpB p.1 q.1 < 0) := rfl
theorem swoW : SWO (ltOf cmpW) where
  irrefl x := by rw [ltW, cmpB_self]; rfl
  trans x y z h1 h2 := by rw [ltW] at *; simp only [decide_eq_true_eq] at *; exact cmpB_trans h1 h2
  ntrans x y z h1 h2 := by rw [ltW] at *; simp only [decide_eq_false_iff_not] at *; exact cmpB_ge h1 h2
theorem totW : ∀ x y, ltOf cmpW x y = false → ltOf cmpW y x = false → x = y := by
  intro x y h1 h2
  rw [ltW] at h1 h2
  simp only [decide_eq_false_iff_not] at h1 h2
  have := cmpB_neg x.1 y.1
  exact Subtype.ext (cmpB_zero (by omega))
def wLe (x y : NW) : Bool := !(ltOf cmpW) y x
def sortW (l : List NW) : List NW := l.mergeSort wLe
theorem wLe_iff (x y : NW) : wLe x y = true ↔ ¬ cmpB y.1 x.1 < 0 := by
  unfold wLe
  rw [ltW, Bool.not_eq_true', decide_eq_false_iff_not]
theorem wLe_trans (a b c : NW) (h1 : wLe a b = true) (h2 : wLe b c = true) : wLe a c = true := by
  rw [wLe_iff] at *; exact cmpB_ge h2 h1
theorem wLe_total (a b : NW) : (wLe a b || wLe b a) = true := by
  rw [Bool.or_eq_true, wLe_iff, wLe_iff]
  have := cmpB_neg a.1 b.1
  omega
theorem sortW_len (l : List NW) : (sortW l).length = l.length := by unfold sortW; simp
theorem sortW_sorted (l : List NW) : (sortW l).Pairwise (fun a b => wLe a b = true) := List.pairwise_mergeSort wLe_trans wLe_total l
theorem sortW_mem {l : List NW} : (sortW l).Perm l := List.mergeSort_perm l wLe
theorem sortW_of {l l' : List NW} (h : l'.Perm l) (hs : l'.Pairwise (fun a b => wLe a b = true)) : l' = sortW l := by
  refine List.Perm.eq_of_pairwise (le := fun a b => wLe a b = true) (fun a b _ _ h1 h2 => ?_) hs (sortW_sorted l) (h.trans (List.mergeSort_perm l wLe).symm)
  rw [wLe_iff] at h1 h2
  have := cmpB_neg a.1 b.1
  exact Subtype.ext (cmpB_zero (by omega))
theorem flatN_len (l : List NW) : (flatN l).length = l.length * 32 := by
  induction l with
  | nil => rfl
  | cons x l ih => rw [show flatN (x :: l) = x.1.map b8 ++ flatN l from rfl, List.length_append, ih, List.length_map, List.length_cons, show x.1.length = 32 from x.2]; omega
theorem flatN_at : ∀ (l : List NW) (t : Nat) (h : t / 32 < l.length), (flatN l)[t]? = ((l[t / 32]'h).1.map b8)[t % 32]?
  | [], _, h => absurd h (by simp)
  | x :: l, t, h => by
    have hx : (x.1.map b8).length = 32 := by rw [List.length_map]; exact x.2
    rw [show flatN (x :: l) = x.1.map b8 ++ flatN l from rfl]
    by_cases ht : t < 32
    · rw [List.getElem?_append_left (by omega)]
      have e1 : t / 32 = 0 := by omega
      have e2 : t % 32 = t := by omega
      simp only [e1, e2, List.getElem_cons_zero]
    · have e1 : t / 32 = (t - 32) / 32 + 1 := by omega
      have e2 : t % 32 = (t - 32) % 32 := by omega
      rw [List.getElem?_append_right (by omega), hx, flatN_at l (t - 32) (by rw [List.length_cons] at h; omega)]
      simp only [e1, e2, List.getElem_cons_succ]
theorem flat_eqN (l : List NW) : (Go.Sort.flatK cN 32 l.toArray).toList = flatN l := by
  apply List.ext_getElem?
  intro t
  by_cases ht : t < l.length * 32
  · have hj : t / 32 < l.length := by omega
    have e : (Go.Sort.flatK cN 32 l.toArray).toList[t]? = some ((cN l[t / 32])[t % 32]!) := by
      simp [Go.Sort.flatK, ht, hj]
    rw [e, flatN_at l t hj]
    have h32 : (l[t / 32]).1.length = 32 := (l[t / 32]).2
    have hm : t % 32 < (l[t / 32]).1.length := by omega
    simp [cN, hm]
  · rw [List.getElem?_eq_none (by simp; omega), List.getElem?_eq_none (by rw [flatN_len]; omega)]
theorem heap_sorted_v {w : World} {g n : Nat} {os : Array Obj} {cur : Array Value} {e : TypeId} {fr : Nat × Nat} (d : Array Value) (hb : w.heap[g]? = some (.cells cur e fr)) :
    (grow (putRow id (Sort.ahead w n) g 0 d) os).heap[g]? = some (.cells (putCells id 0 d cur) e fr) := by
  have hg : g < w.heap.size := (Array.getElem?_eq_some_iff.1 hb).1
  rw [heap_grow_old _ _ (by simpa using hg)]
  simp [putRow, mapBlock, Sort.ahead, Array.getElem?_modify, hb, onCells]
theorem grownBy_sorted_v {w : World} {g n : Nat} {os : Array Obj} (d : Array Value) : w.grownBy (grow (putRow id (Sort.ahead w n) g 0 d) os) (some g) := by
  refine ⟨rfl, rfl, rfl, by simp, fun k hk hne => ?_⟩
  rw [heap_grow_old _ _ (by simpa using hk)]
  have : g ≠ k := fun e => hne (by rw [e])
  simp [putRow, mapBlock, Sort.ahead, Array.getElem?_modify, this]
theorem take_putCells_v (cur : Array Value) (d : Array Value) (h : d.size ≤ cur.size) : (putCells id 0 d cur).toList.take d.size = d.toList := by
  apply List.ext_getElem?
  intro j
  by_cases hj : j < d.size
  · rw [List.getElem?_take_of_lt hj, Array.getElem?_toList]
    simp [putCells, hj, show j < cur.size by omega]
  · rw [List.getElem?_take_eq_none (by omega), List.getElem?_eq_none (by simp; omega)]
theorem ncell {w : World} {g : Nat} {E : TypeId} {k : Nm} (hb : Bk w g E (nC k)) : ∀ j x, (k.map U8)[j]? = some x → w.cell? ((⟨g, 0, none⟩ : Addr).add j) = some (.int .u8 x) := fun j x hj => by
  rw [add_offN, Nat.zero_add, hb.cell, nC, List.getElem?_toArray, List.getElem?_map]
  rw [List.getElem?_map] at hj
  cases hk : k[j]? with
  | none => rw [hk] at hj; cases hj
  | some y =>
    rw [hk] at hj
    injection hj with hj
    rw [← hj]
    rfl
theorem nload (w : World) (g : Nat) (E : TypeId) (k : Nm) (hb : Bk w g E (nC k)) (hk : nW k) : (Extern.Bytes.bytesOf (.slice (some ⟨g, 0, none⟩) 32 32)).run Try.prog w = .ok ⟨(byN k).toArray⟩ w := by
  have hl := Lib.run_loadBytesX (P := Try.prog) w (k.map U8) ⟨g, 0, none⟩ .empty (ncell hb)
  have he : (⟨ByteArray.empty.data ++ (Lib.bytesOf (k.map U8)).toArray⟩ : ByteArray) = ⟨(Lib.bytesOf (k.map U8)).toArray⟩ := by
    apply ByteArray.ext
    show (#[] : Array UInt8) ++ (Lib.bytesOf (k.map U8)).toArray = (Lib.bytesOf (k.map U8)).toArray
    simp
  rw [he, List.length_map, show k.length = 32 from hk] at hl
  exact hl
theorem run_cmpN (w : World) (g q : Nat) (E F : TypeId) (k l : Nm) (hk : Bk w g E (nC k)) (hl : Bk w q F (nC l)) (wk : nW k) (wl : nW l) : (Extern.BytealgCompare.compare #[.slice (some ⟨g, 0, none⟩) 32 32, .slice (some ⟨q, 0, none⟩) 32 32]).run Try.prog w = .ok (.int .i64 (cmpB k l)) w := by
  change Sem.run Try.prog (do pure (goInt (Extern.BytealgCompare.cmp (← Extern.Bytes.bytesOf (.slice (some ⟨g, 0, none⟩) 32 32)) (← Extern.Bytes.bytesOf (.slice (some ⟨q, 0, none⟩) 32 32))))) w = _
  simp only [Sem.run_bind, Sem.run_pure, nload w g E k hk wk, nload w q F l hl wl, Result.andThen]
  rw [Lib.cmp_eq, cmpB_eq]
  rfl
theorem cmpS_c (w : World) (g q : Nat) (E F : TypeId) (k l : Nm) (hk : Bk w g E (nC k)) (hl : Bk w q F (nC l)) (wk : nW k) (wl : nW l) : Calls Try.prog 30 #[.slice (some ⟨g, 0, none⟩) 32 32, .slice (some ⟨q, 0, none⟩) 32 32] w fun e w' => e = .returned (.int .i64 (cmpB k l)) ∧ w' = w := by
  have HX := Lib.hid (run_cmpN w g q E F k l hk hl wk wl)
  clear hk hl wk wl
  go_enter Try.func30, Try.ntmps30
  go_wp2
  rw [run_callFunc_extern Try.func39 (by kernel_rfl) (by kernel_rfl) (by kernel_rfl) (e := Extern.BytealgCompare.compare) (by kernel_rfl), HX.out]
  simp only [Result.andThen]
  rw [Oper.upon_value]
  go_wp2
  go_ret
  exact ⟨rfl, rfl⟩
theorem two_growN (w : World) (A B : Obj) : ((w.alloc A).alloc B).drew = grow (w.drewN 1) #[A, B] := by
  have e : ∀ (X : World) (os : Array Obj), (grow X os).drew = grow (X.drewN 1) os := fun _ _ => rfl
  rw [alloc_eq_grow w A, alloc_eq_grow (grow w #[A]) B, grow_grow, e]
  rfl
theorem compare_c (p q : NW) (w : World) : Calls Try.prog 24 #[nE p, nE q] w fun e w' => e = .returned (.int .i64 (cmpW p q)) ∧ ∃ n os, w' = grow (w.drewN n) os := by
  obtain ⟨p, hp⟩ := p
  obtain ⟨q, hq⟩ := q
  unfold nE cmpW nV
  dsimp only
  obtain ⟨W0, hW0⟩ : ∃ X, X = (w.alloc (.cells (nC p) 24)).alloc (.cells (nC q) 24) := ⟨_, rfl⟩
  have hA : Bk W0 w.heap.size 24 (nC p) := by rw [hW0]; exact (Bk.new w _ _).alloc _
  have hB : Bk W0 (w.heap.size + 1) 24 (nC q) := by
    have := Bk.new (w.alloc (.cells (nC p) 24)) 24 (nC q)
    rw [World.size_alloc] at this
    rw [hW0]; exact this
  have HC := Lib.hid (cmpS_c W0.drew w.heap.size (w.heap.size + 1) _ _ p q (hA.below (Gw.drew _) hA.lt) (hB.below (Gw.drew _) hB.lt) hp hq)
  have HG := Lib.hid (show W0.drew = grow (w.drewN 1) #[_, _] from by rw [hW0]; exact two_growN w _ _)
  have HPQ := Lib.hid (And.intro hp hq)
  obtain ⟨a, ha⟩ : ∃ a, a = nC p := ⟨_, rfl⟩
  obtain ⟨b, hb⟩ : ∃ b, b = nC q := ⟨_, rfl⟩
  rw [← ha, ← hb] at hW0 ⊢
  have ba := nC_one p
  have bb := nC_one q
  have sa := nC_size hp
  have sb := nC_size hq
  rw [← ha] at ba sa
  rw [← hb] at bb sb
  obtain ⟨z, hz⟩ : ∃ z, z = cmpB p q := ⟨_, rfl⟩
  rw [← hz] at HC ⊢
  clear ha hb hz hp hq hA hB
  go_enter Try.func24, Try.ntmps24
  go_wp2_with fail
  rw [← hW0]
  obtain ⟨H, hH⟩ : ∃ H, H = w.heap.size := ⟨_, rfl⟩
  rw [← hH] at HC ⊢
  clear hW0 hH
  refine region_by_set [2, 3] [(0, 5, .slice (some ⟨H, 0, none⟩) 32 32), (1, 6, .slice (some ⟨H + 1, 0, none⟩) 32 32)] (fun _ => True) (by kernel_rfl) (by kernel_rfl) (by kernel_rfl) (by kernel_rfl) (by kernel_rfl) trivial ?_ ?_
  · intro y0 hy V ρ hV hρ hcst
    have e2 : ρ (.tmp 2) = .pointer (some ⟨H, 0, none⟩) := (hρ 2).trans (by kernel_rfl)
    have e3 : ρ (.tmp 3) = .pointer (some ⟨H + 1, 0, none⟩) := (hρ 3).trans (by kernel_rfl)
    clear hρ HC
    simp only [List.mem_cons, List.not_mem_nil, or_false] at hy
    rcases hy with rfl | rfl
    all_goals
      refine ⟨_, rfl, ?_⟩
      go_simp
      try rfl
  simp only [putA, putD, Act.put, List.setIfInBounds_toArray, List.set_cons_zero, List.set_cons_succ]
  refine spineS_one 2 [3] (by kernel_rfl) ?_
  refine set_list rfl rfl rfl ?_
  go_wp2_with fail
  refine Calls.mono HC.out ?_
  rintro e w' ⟨rfl, rfl⟩
  go_wp2_with fail
  refine ⟨rfl, trivial, ?_⟩
  refine spineS_one 3 [] (by kernel_rfl) ?_
  refine set_list rfl rfl rfl ?_
  go_wp2_with fail
  refine ⟨rfl, trivial, ?_⟩
  unfold SpineS
  go_wp2_with fail
  go_ret
  exact ⟨rfl, 1, _, HG.out⟩
/-- slices.SortFunc at a row of names of one's own. -/
theorem sortN_c (w : World) (base : Nat) (A : Option Addr) (c : Nat) (l : List NW) (hr : NR w base (.slice A l.length c) l) (hl : l.length ≤ 100000) (hb : base ≤ w.heap.size) :
    Calls Try.prog 28 #[.slice A l.length c, .func (.func 24) #[] #[]] w fun e w' => e = .returned (.tuple #[]) ∧ NR w' base (.slice A l.length c) (sortW l) ∧ Below base w w' ∧ w.grownBy w' (Value.slice A l.length c).ownBlock := by
  by_cases h0 : l = []
  · subst h0
    have := AnyF.slices_SortFunc_none (P := Try.prog) (ρ := sortK_ren) { sortK with } A c (.func (.func 24) #[] #[]) w
    change Calls Try.prog 28 #[.slice A 0 c, .func (.func 24) #[] #[]] w _ at this
    refine this.mono ?_
    rintro e w' ⟨rfl, rfl⟩
    rw [show sortW [] = [] from by simp [sortW]]
    exact ⟨rfl, hr, Below.refl _ _, World.grownBy.refl _ _⟩
  · rcases hr.2 with ⟨_, hn⟩ | ⟨q, cap, cur, e, hq, hh, h1, h2, h3, h4⟩
    · exact absurd (List.eq_nil_of_length_eq_zero hn) h0
    · injection e with e1 e2 e3
      subst e1
      subst e3
      have hH : HoldsK cN 32 w q 0 l.toArray := by
        intro j hj
        have hj' : j < l.length * 32 := by simpa using hj
        refine ⟨?_, by simp [World.frozen?, hh]⟩
        have h5 : (cur.toList.take (l.length * 32))[j]? = (flatN l)[j]? := by rw [h4]
        rw [List.getElem?_take_of_lt hj', ← flat_eqN] at h5
        simp only [World.cell?, hh, Nat.zero_add]
        simp only [Option.isSome_none, Bool.false_eq_true, if_false]
        rw [← Array.getElem?_toList, h5]
        simp [hj']
      have hcon := AnyQ.slices_SortFunc_total (P := Try.prog) (ρ := sortK_ren) sortK 32 Try.isAgg24 Try.sizeOf24 cN (fun x => by unfold cN; rw [List.length_map]; exact x.2) (fun x v hv => by simp [cN] at hv; obtain ⟨b, _, rfl⟩ := hv; rfl) cmpW swoW 24 #[] q 0 c l.toArray w
        (enters_of Try.func24 (by kernel_rfl) rfl) (fun _ _ _ _ x y => compare_c x y _) hH (Array.getElem?_eq_some_iff.1 hh).1 (by simp; omega) totW
      change Calls Try.prog 28 #[.slice (some ⟨q, 0, none⟩) l.toArray.size c, .func (.func 24) #[] #[]] w _ at hcon
      rw [List.size_toArray] at hcon
      refine hcon.mono ?_
      rintro e w' ⟨rfl, n, os, rfl⟩
      have hsort : (l.toArray.toList.mergeSort fun x y => !(ltOf cmpW) y x) = sortW l := rfl
      rw [hsort]
      have hflat := flat_eqN (sortW l)
      have hsz : (Go.Sort.flatK cN 32 (sortW l).toArray).size = l.length * 32 := by simp [sortW_len]
      have hg : w.grownBy (sortWorldK cN 32 w q 0 n (sortW l).toArray os) (some q) := grownBy_sorted_v _
      refine ⟨rfl, ⟨by rw [flatN_len, sortW_len], .inr ⟨q, c, putCells id 0 (Go.Sort.flatK cN 32 (sortW l).toArray) cur, by rw [sortW_len], hq, heap_sorted_v _ hh, by rw [sortW_len]; exact h1, h2, by simp [putCells, h3], ?_⟩⟩, (Below.refl _ _).grown hg hb (fun k e => by cases e; exact hq), hg⟩
      rw [sortW_len, ← hflat, ← hsz]
      refine take_putCells_v cur _ ?_
      rw [hsz, h3]
      omega
end Go.Proofs.Ytdfhdgdhhgabbaa
