/- What hand.Table's Renumber answers. Conditions: at most 256 handles, at most 1000 numbers. -/
import Derived.Test.YtflocdghpnjoaaaHdE
namespace Go.Proofs.Ytflocdghpnjoaaa
set_option linter.unusedVariables false
set_option linter.unusedSimpArgs false
open Go.RowKit Go.Maps
/-- A handle by its node's new number; none: closed. -/
def renF (to : List Int) (p : Int × Int) : Option (Int × Int) :=
  if (to.length : Int) < p.2 then none else if to.getD (p.2 - 1).toNat 0 < 1 then none else some (p.1, to.getD (p.2 - 1).toNat 0)
def renL (to : List Int) (l : List (Int × Int)) : List (Int × Int) := l.filterMap (renF to)
theorem ren_key {to : List Int} {p q : Int × Int} (h : renF to p = some q) : q.1 = p.1 ∧ 1 ≤ q.2 := by
  unfold renF at h
  split at h
  · cases h
  · split at h
    · cases h
    · cases h; exact ⟨rfl, by show 1 ≤ to.getD (p.2 - 1).toNat 0; omega⟩
theorem ren_mem {to : List Int} {l : List (Int × Int)} {q : Int × Int} (h : q ∈ renL to l) : ∃ p ∈ l, q.1 = p.1 ∧ 1 ≤ q.2 := by
  obtain ⟨p, hp, hq⟩ := List.mem_filterMap.1 h
  exact ⟨p, hp, ren_key hq⟩
theorem ren_len (to : List Int) (l : List (Int × Int)) : (renL to l).length ≤ l.length := List.length_filterMap_le _ _
theorem ren_snoc_none {to : List Int} {a : List (Int × Int)} {p : Int × Int} (h : renF to p = none) : renL to (a ++ [p]) = renL to a := by
  unfold renL; rw [List.filterMap_append]; simp [h]
theorem ren_snoc_some {to : List Int} {a : List (Int × Int)} {p q : Int × Int} (h : renF to p = some q) : renL to (a ++ [p]) = renL to a ++ [q] := by
  unfold renL; rw [List.filterMap_append]; simp [h]
theorem Rise.cut {l : List (Int × Int)} (h : Rise l) (j : Nat) (hj : j < l.length) : (∀ p ∈ l.take j, p.1 < l[j].1) ∧ (∀ p ∈ l.drop (j + 1), l[j].1 < p.1) := by
  have e : l = l.take j ++ l[j] :: l.drop (j + 1) := by rw [List.getElem_cons_drop, List.take_append_drop]
  have h' := h
  rw [e] at h'
  exact h'.mid
theorem TabAt.swap {w w' : World} {g b : Nat} {a c : List (Int × Int)} {k x v : Int} {last : Nat} (h : TabAt w g (some b) (a ++ (k, x) :: c) last) (hm : MapIs w' (some b) (putI (a ++ (k, x) :: c) k v)) (hk : Kept (fun i => some b = some i) w w') (h1 : 1 ≤ v) (h2 : v ≤ 9223372036854775807) :
    TabAt w' g (some b) (a ++ (k, v) :: c) last := by
  obtain ⟨p1, p2⟩ := h.rise.mid
  refine ⟨hk.bk h.blk (fun e => h.ne _ e rfl), ?_, h.ne, h.rise.mid_put v, ?_, h.lim, by have := h.len; simp at this ⊢; omega⟩
  · rw [put_mid a c k x v p1 p2] at hm; exact hm
  · intro p hp
    rcases List.mem_append.1 hp with hp | hp
    · exact h.keys p (List.mem_append.2 (.inl hp))
    · rcases List.mem_cons.1 hp with rfl | hp
      · have := h.keys (k, x) (by simp); simp at this ⊢; omega
      · exact h.keys p (List.mem_append.2 (.inr (List.mem_cons_of_mem _ hp)))
theorem TabAt.off {w : World} {g : Nat} {mb : Option Nat} {a c : List (Int × Int)} {k x : Int} {last : Nat} (h : Rise (a ++ (k, x) :: c)) (ht : TabAt w g mb (offI (a ++ (k, x) :: c) k) last) : TabAt w g mb (a ++ c) last := by
  obtain ⟨p1, p2⟩ := h.mid
  rw [off_mid a c k x p1 p2] at ht
  exact ht
/-- The row in the middle of a renumbering. -/
def midL (to : List Int) (l : List (Int × Int)) (j : Nat) : List (Int × Int) := renL to (l.take j) ++ l.drop j
theorem mid_zero (to : List Int) (l : List (Int × Int)) : midL to l 0 = l := by simp [midL, renL]
theorem mid_end (to : List Int) (l : List (Int × Int)) : midL to l l.length = renL to l := by simp [midL]
theorem mid_at (to : List Int) (l : List (Int × Int)) (j : Nat) (hj : j < l.length) : midL to l j = renL to (l.take j) ++ l[j] :: l.drop (j + 1) := by
  unfold midL; rw [List.getElem_cons_drop]
theorem take_snoc {α : Type} (l : List α) (j : Nat) (hj : j < l.length) : l.take (j + 1) = l.take j ++ [l[j]] := List.take_succ_eq_append_getElem hj
theorem mid_none {to : List Int} {l : List (Int × Int)} {j : Nat} (hj : j < l.length) (h : renF to l[j] = none) : midL to l (j + 1) = renL to (l.take j) ++ l.drop (j + 1) := by
  unfold midL; rw [take_snoc l j hj, ren_snoc_none h]
theorem mid_some {to : List Int} {l : List (Int × Int)} {j : Nat} {q : Int × Int} (hj : j < l.length) (h : renF to l[j] = some q) : midL to l (j + 1) = renL to (l.take j) ++ q :: l.drop (j + 1) := by
  unfold midL; rw [take_snoc l j hj, ren_snoc_some h, List.append_assoc]; rfl
def goneL (to : List Int) (l : List (Int × Int)) (j : Nat) : Nat := j - (renL to (l.take j)).length
theorem gone_none {to : List Int} {l : List (Int × Int)} {j : Nat} (hj : j < l.length) (h : renF to l[j] = none) : goneL to l (j + 1) = goneL to l j + 1 := by
  have := ren_len to (l.take j)
  unfold goneL; rw [take_snoc l j hj, ren_snoc_none h]
  simp at this; omega
theorem gone_some {to : List Int} {l : List (Int × Int)} {j : Nat} {q : Int × Int} (hj : j < l.length) (h : renF to l[j] = some q) : goneL to l (j + 1) = goneL to l j := by
  unfold goneL; rw [take_snoc l j hj, ren_snoc_some h]
  simp
set_option maxHeartbeats 400000
set_option maxRecDepth 100000
theorem hr_reg (Q : Exit → Act → World → Prop) (a0 : Act) (w : World) (g b m M cT : Nat) (ad : Addr) (k z : Int) (hg : g < w.heap.size) (c0 : w.cell? ⟨g, 0, none⟩ = some (.map (some b))) (ha : ad.block < w.heap.size) (c1 : w.cell? (ad.add m) = some (.int .i64 z)) (p1 : (0 : Int) ≤ (m : Int)) (p2 : (m : Int) < (M : Int)) (p3 : (M : Int) ≤ 1000) (hsz : a0.tmps.size = 51) (sl0 : a0.tmps.getD 0 undef = .pointer (some ⟨g, 0, none⟩)) (sl1 : a0.tmps.getD 1 undef = .slice (some ad) M cT) (sl7 : a0.tmps.getD 7 undef = .int .i64 k) (sl8 : a0.tmps.getD 8 undef = .int .i64 ((m : Int) + 1))
    (fin : ∀ (vals : Nat → Value) (w1 : World), Below w.heap.size w w1 → (IsV (.map (some b))) (vals 3) w1 → (IsV (.int .i64 k)) (vals 4) w1 → (IsV (.int .i64 z)) (vals 9) w1 → wpList Try.prog #[{ dst := none, op := Go.Op.mapUpdate 48 (Go.Operand.tmp 42) (Go.Operand.tmp 43) (Go.Operand.tmp 48), type := 0, pos := "", after := #[], guard := none }] Q [{ dst := none, op := Go.Op.mapUpdate 48 (Go.Operand.tmp 42) (Go.Operand.tmp 43) (Go.Operand.tmp 48), type := 0, pos := "", after := #[], guard := none }] (putD vals [39, 40, 41, 42, 43, 44, 45, 46, 47, 48] 0 a0) w1) :
    (Code.region 9 (regIn Try.f13 9) true).wp Try.prog Q a0 w := by
  refine region_by_tail (m := 10) (G := fun w w1 => Below w.heap.size w w1) [IsV (.pointer (some ⟨g, 0, none⟩)),
    IsV (.pointer (some ⟨g, 0, none⟩)),
    IsV (.pointer (some ⟨g, 0, none⟩)),
    IsV (.map (some b)),
    IsV (.int .i64 k),
    IsV (.slice (some ad) M cT),
    IsV (.int .i64 ((m : Int) + 1)),
    IsV (.int .i64 m),
    IsV (.pointer (some (ad.add m))),
    IsV (.int .i64 z)]
    [39, 40, 41, 42, 43, 44, 45, 46, 47, 48] (by kernel_rfl) (Gw.drew _) Gw.trans (by rw [hsz]; kernel_rfl) (by kernel_rfl) ?_ ?_ ?_
  · intro f hf
    simp only [List.mem_cons, List.not_mem_nil, or_false] at hf
    rcases hf with rfl | rfl | rfl | rfl | rfl | rfl | rfl | rfl | rfl | rfl <;> intro v a b h g <;> first | exact IsV.mono h
  · refine ⟨?_, ?_, ?_, ?_, ?_, ?_, ?_, ?_, ?_, ?_, trivial⟩
    · exact owes_mv 0 (by kernel_rfl) (by kernel_rfl) (by kernel_rfl) sl0 (fun _ => rfl)
    · refine owes_v (Go.Op.nilCheck (Go.Operand.tmp 39)) 0 [0] (by kernel_rfl) (by kernel_rfl) (by kernel_rfl) rfl fun vals w1 ρ hG hF hρ hcst hfun => ?_
      have e39 : ρ (.tmp 39) = .pointer (some ⟨g, 0, none⟩) := ((hρ 39).trans (slotJ [0] (by rw [hsz]; decide) (by kernel_rfl))).trans (hF 0 (by decide))
      clear hρ hF hcst hfun sl0 sl1 sl7 sl8 fin
      exact opv_val (by go_simp <;> rfl) ⟨gw_self _, rfl⟩
    · refine owes_v (Go.Op.fieldAddr 50 (Go.Operand.tmp 40) 0) 0 [1] (by kernel_rfl) (by kernel_rfl) (by kernel_rfl) rfl fun vals w1 ρ hG hF hρ hcst hfun => ?_
      have e40 : ρ (.tmp 40) = .pointer (some ⟨g, 0, none⟩) := ((hρ 40).trans (slotJ [1] (by rw [hsz]; decide) (by kernel_rfl))).trans (hF 1 (by decide))
      clear hρ hF hcst hfun sl0 sl1 sl7 sl8 fin
      exact opv_val (by go_simp <;> rfl) ⟨gw_self _, rfl⟩
    · refine owes_v (Go.Op.load 48 (Go.Operand.tmp 41)) 48 [2] (by kernel_rfl) (by kernel_rfl) (by kernel_rfl) rfl fun vals w1 ρ hG hF hρ hcst hfun => ?_
      have e41 : ρ (.tmp 41) = .pointer (some ⟨g, 0, none⟩) := ((hρ 41).trans (slotJ [2] (by rw [hsz]; decide) (by kernel_rfl))).trans (hF 2 (by decide))
      have k := (hG.cell (p := ⟨g, 0, none⟩) hg).trans c0
      clear hρ hF hcst hfun sl0 sl1 sl7 sl8 fin
      exact opv_val (by go_simp <;> rfl) ⟨gw_self _, rfl⟩
    · exact owes_mv 7 (by kernel_rfl) (by kernel_rfl) (by kernel_rfl) sl7 (fun _ => rfl)
    · exact owes_mv 1 (by kernel_rfl) (by kernel_rfl) (by kernel_rfl) sl1 (fun _ => rfl)
    · exact owes_mv 8 (by kernel_rfl) (by kernel_rfl) (by kernel_rfl) sl8 (fun _ => rfl)
    · refine owes_v (Go.Op.binOp Go.BinOp.sub 3 (Go.Operand.tmp 45) (Go.Operand.const (Go.Value.int Go.IntKind.i64 1)) 3) 3 [6] (by kernel_rfl) (by kernel_rfl) (by kernel_rfl) rfl fun vals w1 ρ hG hF hρ hcst hfun => ?_
      have e45 : ρ (.tmp 45) = .int .i64 ((m : Int) + 1) := ((hρ 45).trans (slotJ [6] (by rw [hsz]; decide) (by kernel_rfl))).trans (hF 6 (by decide))
      have kw0 : IntKind.i64.wrap ((m : Int)) = (m : Int) := wrapIn (by omega) (by omega)
      clear hρ hF hfun sl0 sl1 sl7 sl8 fin
      exact opv_val (by go_simp <;> rfl) ⟨gw_self _, rfl⟩
    · refine owes_v (Go.Op.indexAddr 27 (Go.Operand.tmp 44) (Go.Operand.tmp 46)) 0 [5, 7] (by kernel_rfl) (by kernel_rfl) (by kernel_rfl) rfl fun vals w1 ρ hG hF hρ hcst hfun => ?_
      have e44 : ρ (.tmp 44) = .slice (some ad) M cT := ((hρ 44).trans (slotJ [5, 7] (by rw [hsz]; decide) (by kernel_rfl))).trans (hF 5 (by decide))
      have e46 : ρ (.tmp 46) = .int .i64 m := ((hρ 46).trans (slotJ [5, 7] (by rw [hsz]; decide) (by kernel_rfl))).trans (hF 7 (by decide))
      clear hρ hF hcst hfun sl0 sl1 sl7 sl8 fin
      exact opv_val (by go_simp <;> rfl) ⟨gw_self _, rfl⟩
    · refine owes_v (Go.Op.load 3 (Go.Operand.tmp 47)) 3 [8] (by kernel_rfl) (by kernel_rfl) (by kernel_rfl) rfl fun vals w1 ρ hG hF hρ hcst hfun => ?_
      have e47 : ρ (.tmp 47) = .pointer (some (ad.add m)) := ((hρ 47).trans (slotJ [8] (by rw [hsz]; decide) (by kernel_rfl))).trans (hF 8 (by decide))
      have k := (hG.cell (p := ad.add m) (by rw [add_block]; exact ha)).trans c1
      clear hρ hF hcst hfun sl0 sl1 sl7 sl8 fin
      exact opv_val (by go_simp <;> rfl) ⟨gw_self _, rfl⟩
  · intro vals w1 hG hF
    exact last_list (by kernel_rfl) (by kernel_rfl) (by kernel_rfl) (fin vals w1 hG (hF 3 (by decide +kernel)) (hF 4 (by decide +kernel)) (hF 9 (by decide +kernel)))
def RenP (w : World) (g : Nat) (mb : Option Nat) (l : List (Int × Int)) (last : Nat) (to : List Int) (e : Ending) (w' : World) : Prop :=
  e = .returned (.int .i64 ((l.length - (renL to l).length : Nat) : Int)) ∧ TabAt w' g mb (renL to l) last ∧ Kept (Own2 g mb) w w'
theorem hren_c (w : World) (g : Nat) (mb : Option Nat) (l : List (Int × Int)) (last : Nat) (h : TabAt w g mb l last) (T : Option Addr) (cT : Nat) (to : List Int) (hr : Rd i64 w w.heap.size T to) (hT : 0 < to.length → ∀ ad, T = some ad → ¬ Own2 g mb ad.block) (hM : to.length ≤ 1000) (hw : ∀ x ∈ to, x ≤ 9223372036854775807) :
    Calls Try.prog 13 #[.pointer (some ⟨g, 0, none⟩), .slice T to.length cT] w (RenP w g mb l last to) := by
  have HL := Lib.hid (hlive_c w g mb l last h)
  have HX := Lib.hid h
  have HT := Lib.hid (And.intro hr (And.intro hT (And.intro hM hw)))
  have hlen := h.len
  obtain ⟨N, hN⟩ : ∃ N, N = l.length := ⟨_, rfl⟩
  have HNN := Lib.hid hN
  have hN2 : (N : Int) ≤ 256 := by omega
  obtain ⟨M, hMM⟩ : ∃ M, M = to.length := ⟨_, rfl⟩
  have HMM := Lib.hid hMM
  rw [← hMM] at hM ⊢
  have hM2 : (M : Int) ≤ 1000 := by omega
  clear h hlen hN hr hT hw hMM hM
  go_enter Try.func13, Try.ntmps13
  go_wp2_with fail
  refine Calls.mono HL.out ?_
  rintro e w1 ⟨v, rfl, ho, hb⟩
  obtain ⟨A, c, rfl, hc⟩ := ho.form
  rw [List.length_map, ← HNN.out]
  have HO := Lib.hid ho
  have HB := Lib.hid hb
  have H1 := Lib.hid (HX.out.below hb)
  clear ho hb hc HL
  go_wp2_with fail
  go_loopw [5, 12] (fun q i wr => ∃ k : Nat, k ≤ N ∧ i = .int .i64 k ∧ q = .int .i64 (goneL to l k) ∧ TabAt wr g mb (midL to l k) last ∧ Kept (Own2 g mb) w1 wr) (fun _ i _ => N - (intOf i).toNat)
  case atStart => exact ⟨0, by omega, rfl, rfl, by rw [mid_zero]; exact H1.out, Kept.refl _ _⟩
  case round =>
    obtain ⟨k, hk, rfl, rfl, ht, hB⟩ := hrel
    by_cases hlt : k < N
    · have p1 : (0 : Int) ≤ (k : Int) := by omega
      have p2 : (k : Int) < (N : Int) := by omega
      have hkl : k < l.length := by rw [← HNN.out]; omega
      obtain ⟨ad, rfl, hadb, hcl0⟩ := HO.out.rd k (by simpa using hkl)
      have hnS : ¬ Own2 g mb ad.block := by
        have h1 := HX.out.blk.lt
        have h2 := HO.out.lt ad.block (by
          rcases HO.out.2 with ⟨e, _⟩ | ⟨q, _, _, e, _⟩
          · cases e
          · injection e with e; injection e with e; subst e; rfl)
        rintro (e | e)
        · omega
        · have := HX.out.mp.lt _ e; omega
      have hcl := (hB.cell (p := ad.add k) (by rw [add_block]; exact hadb) (by rw [add_block]; exact hnS)).trans hcl0
      clear hcl0
      rw [List.getElem_map] at hcl
      unfold i64 at hcl
      have hmid := mid_at to l k hkl
      have hris := ht.rise
      rw [hmid] at ht hris
      have hlk := ht.mp.look (ht.wfk l[k] (List.mem_append.2 (.inr (List.Mem.head _)))).1
      rw [look_mid _ _ l[k].1 l[k].2 hris.mid.1] at hlk
      have hval := HX.out.keys _ (List.getElem_mem hkl)
      have hlk' : (Instr.lookup 48 (.map mb) (.int .i64 l[k].1) false).run Try.prog wr = .ok (.int .i64 l[k].2) wr := hlk
      obtain ⟨m, hm⟩ : ∃ m : Nat, l[k].2 = (m : Int) + 1 := ⟨(l[k].2 - 1).toNat, by omega⟩
      have hlw := (ht.wfk l[k] (List.mem_append.2 (.inr (List.Mem.head _)))).1
      obtain ⟨b, rfl⟩ : ∃ b, mb = some b := by
        cases mb with
        | none =>
          have e : renL to (l.take k) ++ l[k] :: l.drop (k + 1) = [] := ht.mp
          have e2 := congrArg List.length e
          rw [List.length_append, List.length_cons, List.length_nil] at e2
          omega
        | some b => exact ⟨b, rfl⟩
      have hrf : renF to l[k] = if M ≤ m then none else if to.getD m 0 < 1 then none else some (l[k].1, to.getD m 0) := by
        unfold renF
        rw [hm, ← HMM.out, show ((m : Int) + 1 - 1).toNat = m by omega]
        by_cases hq : M ≤ m
        · rw [if_pos hq, if_pos (by omega)]
        · rw [if_neg hq, if_neg (by omega)]
      have hg1 : goneL to l k ≤ k := Nat.sub_le _ _
      obtain ⟨n, hn⟩ : ∃ n, n = goneL to l k := ⟨_, rfl⟩
      have hgn : renF to l[k] = none → goneL to l (k + 1) = n + 1 := fun e => by rw [gone_none hkl e, hn]
      have hgs : ∀ q, renF to l[k] = some q → goneL to l (k + 1) = n := fun q e => by rw [gone_some hkl e, hn]
      have hmn : renF to l[k] = none → midL to l (k + 1) = renL to (l.take k) ++ l.drop (k + 1) := fun e => mid_none hkl e
      have hms : ∀ q, renF to l[k] = some q → midL to l (k + 1) = renL to (l.take k) ++ q :: l.drop (k + 1) := fun q e => mid_some hkl e
      have hnb : (n : Int) ≤ 256 := by omega
      have he : l[k] = (l[k].1, (m : Int) + 1) := Prod.ext rfl hm
      rw [hm] at hlk'
      rw [← hn]
      obtain ⟨x, hx⟩ : ∃ x, x = l[k].1 := ⟨_, rfl⟩
      rw [← hx] at hcl hlk' hrf hlw he
      rw [he] at ht hris hrf hgn hgs hmn hms
      obtain ⟨c0, c1⟩ := ht.blk.two
      have HTb := Lib.hid ht
      have HRi := Lib.hid hris
      have HLW := Lib.hid hlw
      have HBB := Lib.hid hB
      have HGN := Lib.hid hgn
      have HGS := Lib.hid hgs
      have HMN := Lib.hid hmn
      have HMS := Lib.hid hms
      have HRF := Lib.hid hrf
      have HCl := Lib.hid (hclose_c wr g (some b) _ last ht x hlw)
      clear ht hris hB hgn hgs hmn hms hlk hval hm hmid hnS hadb hlw hn hx he hg1 hkl
      by_cases hq : M ≤ m
      · have hq1 : decide ((M : Int) < (m : Int) + 1) = true := by simp; omega
        have hr := HRF.out
        rw [if_pos hq] at hr
        have HR := Lib.hid hr
        clear hr hrf
        go_wp2_with fail
        refine Calls.mono HCl.out ?_
        rintro e w2 ⟨rfl, h2, k2⟩
        have H2 := Lib.hid (TabAt.off HRi.out h2)
        have HK2 := Lib.hid (HBB.out.trans k2)
        clear h2 k2
        go_wp2_with fail
        go_roundw
        case rel => exact ⟨k + 1, by omega, by go_num, by rw [HGN.out HR.out]; go_num, by rw [HMN.out HR.out]; exact H2.out, HK2.out⟩
        case measure => (first | (simp [intOf]; done) | (simp [intOf]; omega))
      · have hmM : m < to.length := by rw [← HMM.out]; omega
        obtain ⟨ad2, hT2, hadb2, hcl2⟩ := HT.out.1 m hmM
        subst hT2
        have hcl3 := (HB.out.cell (p := ad2.add m) (by rw [add_block]; exact hadb2)).trans hcl2
        clear hcl2
        have hcl2 := (HBB.out.cell (p := ad2.add m) (by rw [add_block]; exact Nat.lt_of_lt_of_le hadb2 HB.out.size) (by rw [add_block]; exact HT.out.2.1 (by omega) _ rfl)).trans hcl3
        clear hcl3
        have hz2 := HT.out.2.2.2 _ (List.getElem_mem hmM)
        have hgd : to.getD m 0 = to[m] := by rw [List.getD_eq_getElem?_getD, List.getElem?_eq_getElem hmM]; rfl
        have hr := HRF.out
        rw [if_neg hq, hgd] at hr
        unfold i64 at hcl2
        obtain ⟨z, hz⟩ : ∃ z, z = to[m] := ⟨_, rfl⟩
        rw [← hz] at hr hcl2 hz2
        have q1 : decide ((M : Int) < (m : Int) + 1) = false := by simp; omega
        have q2 : (0 : Int) ≤ (m : Int) := by omega
        have q3 : (m : Int) < (M : Int) := by omega
        have q4 : m < M := by omega
        have hadb3 : ad2.block < wr.heap.size := Nat.lt_of_lt_of_le (Nat.lt_of_lt_of_le hadb2 HB.out.size) HBB.out.size
        clear hz hgd hrf hmM hadb2
        by_cases hz1 : z < 1
        · have z1 : decide (z < 1) = true := by simp; omega
          rw [if_pos hz1] at hr
          have HR := Lib.hid hr
          clear hr hz2 hadb3
          go_wp2_with fail
          refine Calls.mono HCl.out ?_
          rintro e w2 ⟨rfl, h2, k2⟩
          have H2 := Lib.hid (TabAt.off HRi.out h2)
          have HK2 := Lib.hid (HBB.out.trans k2)
          clear h2 k2
          go_wp2_with fail
          go_roundw
          case rel => exact ⟨k + 1, by omega, by go_num, by rw [HGN.out HR.out]; go_num, by rw [HMN.out HR.out]; exact H2.out, HK2.out⟩
          case measure => (first | (simp [intOf]; done) | (simp [intOf]; omega))
        · have z1 : decide (z < 1) = false := by simp; omega
          rw [if_neg hz1] at hr
          have HR := Lib.hid hr
          have HWF := Lib.hid (show (Lit.int .i64 x).wf = true ∧ (Lit.int .i64 z).wf = true ∧ (renL to (l.take k) ++ (x, (m : Int) + 1) :: l.drop (k + 1)).length ≤ 1000000 from ⟨HLW.out, wfI (by omega) hz2, Nat.le_trans HTb.out.len (by omega)⟩)
          have HZ := Lib.hid (show 1 ≤ z ∧ z ≤ 9223372036854775807 from ⟨by omega, hz2⟩)
          have HReg := Lib.hid (fun Q a0 => hr_reg Q a0 wr g b m M cT ad2 x z HTb.out.blk.lt c0 hadb3 hcl2 q2 q3 hM2)
          clear hr hz2 hadb3 hz1
          go_wp2_with fail
          refine HReg.out _ _ rfl rfl rfl rfl rfl ?_
          intro vals w2 hG h42 h43 h48
          unfold IsV at h42 h43 h48
          simp only [putD, Act.put, List.setIfInBounds_toArray, List.set_cons_zero, List.set_cons_succ, h42, h43, h48]
          have H2 := Lib.hid (HTb.out.below hG)
          have HK2 := Lib.hid (HBB.out.trans (Kept.of_below hG _))
          clear h42 h43 h48 hG
          go_wp2_with (at_mapUpdate; refine wp_put_is rfl (.tmp 42) (.tmp 43) (.tmp 48) rfl rfl H2.out.mp _ _ rfl rfl HWF.out.1 HWF.out.2.1 HWF.out.2.2 ?_; intro w3 h3 k3; have H3 := Lib.hid (H2.out.swap h3 k3 HZ.out.1 HZ.out.2); have HK3 := Lib.hid (HK2.out.trans (k3.more (fun i e => (Or.inr e : Own2 g (some b) i)))); clear h3 k3)
          go_roundw
          case rel => exact ⟨k + 1, by omega, by go_num, by rw [HGS.out _ HR.out], by rw [HMS.out _ HR.out]; exact H3.out, HK3.out⟩
          case measure => (first | (simp [intOf]; done) | (simp [intOf]; omega))
    · obtain rfl : k = N := by omega
      rw [HNN.out, mid_end] at ht
      have hgl : goneL to l l.length = l.length - (renL to l).length := by unfold goneL; rw [List.take_length]
      have HR := Lib.hid (And.intro ht (And.intro ((Kept.of_below HB.out _).trans hB) hgl))
      clear ht hB hgl
      go_wp2_with fail
      go_ret
      exact ⟨by rw [← HR.out.2.2, ← HNN.out]; rfl, HR.out.1, HR.out.2.1⟩
end Go.Proofs.Ytflocdghpnjoaaa
