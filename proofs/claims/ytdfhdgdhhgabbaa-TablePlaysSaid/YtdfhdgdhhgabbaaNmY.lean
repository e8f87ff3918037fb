/- Roots of any table. Conditions: lengths. -/
import Derived.Test.YtdfhdgdhhgabbaaNmR
import Derived.Test.YtdfhdgdhhgabbaaNmS
import Derived.Test.YtdfhdgdhhgabbaaRegT2
namespace Go.Proofs.Ytdfhdgdhhgabbaa
set_option linter.unusedVariables false
set_option linter.unusedSimpArgs false
open Go.RowKit Go.Maps Go.Sort Go.Shelf
set_option maxHeartbeats 1000000
set_option maxRecDepth 100000
/-- What a table tells: its names, rising, as texts, each with its number. -/
def rootsN (m : Tb) (ss : List NW) : List (ByteArray × Int) := (sortW ss).map fun x => (strB (cutN x.1), (vOf m x.1).getD 0)
theorem NR.atN {w : World} {base : Nat} {A : Option Addr} {n c : Nat} {l : List NW} (h : NR w base (.slice A n c) l) (j : Nat) (hj : j < l.length) : ∃ q, A = some ⟨q, 0, none⟩ ∧ base ≤ q ∧ q < w.heap.size ∧ ∀ i u, ((l[j]).1.map b8)[i]? = some u → w.cell? ((⟨q, j * 32, none⟩ : Addr).add i) = some u := by
  rcases h.form with ⟨e, rfl⟩ | ⟨q, c', e, _, _, h1, h2⟩
  · exact absurd hj (by simp)
  · injection e with e1 e2 e3
    subst e1
    refine ⟨q, rfl, h1, h2, fun i u hu => ?_⟩
    have hi : i < 32 := by
      have := (List.getElem?_eq_some_iff.1 hu).1
      rw [List.length_map, show (l[j]).1.length = 32 from (l[j]).2] at this
      exact this
    have hf := flatN_at l (j * 32 + i) (by omega)
    have e1 : (j * 32 + i) / 32 = j := by omega
    have e2 : (j * 32 + i) % 32 = i := by omega
    simp only [e1, e2] at hf
    have hc := World.ownsRow.cells h rfl _ _ (hf.trans hu)
    rw [add_offN] at hc ⊢
    rw [Nat.zero_add] at hc
    exact hc
theorem roN_reg (Q : Exit → Act → World → Prop) (a0 : Act) (w : World) (g q : Nat) (mb : Option Nat) (arr : Array Value) (z : Int) (st : ByteArray) (sv : Value) (hs : arr.size = 32) (hg : Bk w g 34 #[.map mb]) (hq : Bk w q 24 arr) (HS : Hid (∀ W, Calls Try.prog 10 #[.agg arr] W (RetP (.string st) W))) (HL : Hid (∀ W, Below w.heap.size w W → (Instr.lookup 32 (.map mb) (.agg arr) false).run Try.prog W = .ok (.int .i64 z) W)) (hsz : a0.tmps.size = 31) (sl0 : a0.tmps.getD 0 undef = .pointer (some ⟨g, 0, none⟩)) (sl3 : a0.tmps.getD 3 undef = sv) (sl5 : a0.tmps.getD 5 undef = .pointer (some ⟨q, 0, none⟩))
    (fin : ∀ (vals : Nat → Value) (w1 : World), Below w.heap.size w w1 → (IsV sv) (vals 0) w1 → (RootN st z) (vals 10) w1 → wpList Try.prog #[{ dst := some 28, op := Go.Op.call { callee := Go.Callee.builtin Go.Builtin.append, args := #[Go.Operand.tmp 17, Go.Operand.tmp 27], argTypes := #[35, 35] }, type := 35, pos := "", after := #[], guard := none }] (SpineQ (putD vals [17, 18, 19, 20, 21, 22, 23, 24, 25, 26, 27] 0 a0).defers (fun _ => True) (fun a w => wpList Try.prog #[{ dst := some 3, op := Go.Op.assign (Go.Operand.tmp 28), type := 35, pos := "", after := #[], guard := none }] Q [{ dst := some 3, op := Go.Op.assign (Go.Operand.tmp 28), type := 35, pos := "", after := #[], guard := none }] a w)) [{ dst := some 28, op := Go.Op.call { callee := Go.Callee.builtin Go.Builtin.append, args := #[Go.Operand.tmp 17, Go.Operand.tmp 27], argTypes := #[35, 35] }, type := 35, pos := "", after := #[], guard := none }] (putD vals [17, 18, 19, 20, 21, 22, 23, 24, 25, 26, 27] 0 a0) w1) :
    (Code.region 5 (regIn Try.f17 5) true).wp Try.prog Q a0 w := by
  refine region_by_tail2 (m := 11) (G := fun w w1 => Below w.heap.size w w1) [IsV sv,
    IsV (.agg arr),
    IsV (.string st),
    IsV (.pointer (some ⟨g, 0, none⟩)),
    IsV (.pointer (some ⟨g, 0, none⟩)),
    IsV (.pointer (some ⟨g, 0, none⟩)),
    IsV (.map mb),
    IsV (.agg arr),
    IsV (.int .i64 z),
    IsV (.agg #[.string st, .int .i64 z]),
    RootN st z]
    [17, 18, 19, 20, 21, 22, 23, 24, 25, 26, 27] (by kernel_rfl) (Gw.drew _) Gw.trans (by rw [hsz]; kernel_rfl) (by kernel_rfl) ?_ ?_ ?_
  · intro f hf
    simp only [List.mem_cons, List.not_mem_nil, or_false] at hf
    rcases hf with rfl | rfl | rfl | rfl | rfl | rfl | rfl | rfl | rfl | rfl | rfl <;> intro v a b h g <;> first | exact IsV.mono h | exact RootN.mono h g
  · refine ⟨?_, ?_, ?_, ?_, ?_, ?_, ?_, ?_, ?_, ?_, ?_, trivial⟩
    · exact owes_mv 3 (by kernel_rfl) (by kernel_rfl) (by kernel_rfl) sl3 (fun _ => rfl)
    · refine owes_v (Go.Op.load 24 (Go.Operand.tmp 5)) 24 [] (by kernel_rfl) (by kernel_rfl) (by kernel_rfl) rfl fun vals w1 ρ hG hF hρ hcst hfun => ?_
      have e5 : ρ (.tmp 5) = .pointer (some ⟨q, 0, none⟩) := ((hρ 5).trans (slotO [] (by kernel_rfl))).trans sl5
      clear hρ hF hcst hfun sl0 sl3 sl5 fin
      exact opv_loadN e5 (hq.below hG hq.lt) hs
    · refine owes_v (Go.Op.call { callee := Go.Callee.value (Go.Operand.func 10), args := #[Go.Operand.tmp 18], argTypes := #[24] }) 9 [1] (by kernel_rfl) (by kernel_rfl) (by kernel_rfl) rfl fun vals w1 ρ hG hF hρ hcst hfun => ?_
      have e18 : ρ (.tmp 18) = .agg arr := ((hρ 18).trans (slotJ [1] (by rw [hsz]; decide) (by kernel_rfl))).trans (hF 1 (by decide))
      clear hρ hF hcst sl0 sl3 sl5 fin
      exact opv_enter (by go_simp <;> rfl) (of_retN (HS.out w1))
    · exact owes_mv 0 (by kernel_rfl) (by kernel_rfl) (by kernel_rfl) sl0 (fun _ => rfl)
    · refine owes_v (Go.Op.nilCheck (Go.Operand.tmp 20)) 0 [3] (by kernel_rfl) (by kernel_rfl) (by kernel_rfl) rfl fun vals w1 ρ hG hF hρ hcst hfun => ?_
      have e20 : ρ (.tmp 20) = .pointer (some ⟨g, 0, none⟩) := ((hρ 20).trans (slotJ [3] (by rw [hsz]; decide) (by kernel_rfl))).trans (hF 3 (by decide))
      clear hρ hF hcst hfun sl0 sl3 sl5 fin
      exact opv_val (by go_simp <;> rfl) ⟨gw_self _, rfl⟩
    · refine owes_v (Go.Op.fieldAddr 34 (Go.Operand.tmp 21) 0) 0 [4] (by kernel_rfl) (by kernel_rfl) (by kernel_rfl) rfl fun vals w1 ρ hG hF hρ hcst hfun => ?_
      have e21 : ρ (.tmp 21) = .pointer (some ⟨g, 0, none⟩) := ((hρ 21).trans (slotJ [4] (by rw [hsz]; decide) (by kernel_rfl))).trans (hF 4 (by decide))
      clear hρ hF hcst hfun sl0 sl3 sl5 fin
      exact opv_val (by go_simp <;> rfl) ⟨gw_self _, rfl⟩
    · refine owes_v (Go.Op.load 32 (Go.Operand.tmp 22)) 32 [5] (by kernel_rfl) (by kernel_rfl) (by kernel_rfl) rfl fun vals w1 ρ hG hF hρ hcst hfun => ?_
      have e22 : ρ (.tmp 22) = .pointer (some ⟨g, 0, none⟩) := ((hρ 22).trans (slotJ [5] (by rw [hsz]; decide) (by kernel_rfl))).trans (hF 5 (by decide))
      have k0 := (hg.below hG hg.lt).cell 0
      clear hρ hF hcst hfun sl0 sl3 sl5 fin
      exact opv_val (by go_simp <;> rfl) ⟨gw_self _, rfl⟩
    · refine owes_v (Go.Op.load 24 (Go.Operand.tmp 5)) 24 [] (by kernel_rfl) (by kernel_rfl) (by kernel_rfl) rfl fun vals w1 ρ hG hF hρ hcst hfun => ?_
      have e5 : ρ (.tmp 5) = .pointer (some ⟨q, 0, none⟩) := ((hρ 5).trans (slotO [] (by kernel_rfl))).trans sl5
      clear hρ hF hcst hfun sl0 sl3 sl5 fin
      exact opv_loadN e5 (hq.below hG hq.lt) hs
    · refine owes_v (Go.Op.lookup 32 (Go.Operand.tmp 23) (Go.Operand.tmp 24) false) 3 [6, 7] (by kernel_rfl) (by kernel_rfl) (by kernel_rfl) rfl fun vals w1 ρ hG hF hρ hcst hfun => ?_
      have e23 : ρ (.tmp 23) = .map mb := ((hρ 23).trans (slotJ [6, 7] (by rw [hsz]; decide) (by kernel_rfl))).trans (hF 6 (by decide))
      have e24 : ρ (.tmp 24) = .agg arr := ((hρ 24).trans (slotJ [6, 7] (by rw [hsz]; decide) (by kernel_rfl))).trans (hF 7 (by decide))
      have k1 := HL.out w1 hG
      clear hρ hF hcst hfun sl0 sl3 sl5 fin
      exact opv_val (by go_simp <;> rfl) ⟨gw_self _, rfl⟩
    · refine owes_v (Go.Op.build 42 #[(0, Go.Operand.tmp 19), (1, Go.Operand.tmp 25)]) 42 [2, 8] (by kernel_rfl) (by kernel_rfl) (by kernel_rfl) rfl fun vals w1 ρ hG hF hρ hcst hfun => ?_
      have e19 : ρ (.tmp 19) = .string st := ((hρ 19).trans (slotJ [2, 8] (by rw [hsz]; decide) (by kernel_rfl))).trans (hF 2 (by decide))
      have e25 : ρ (.tmp 25) = .int .i64 z := ((hρ 25).trans (slotJ [2, 8] (by rw [hsz]; decide) (by kernel_rfl))).trans (hF 8 (by decide))
      clear hρ hF hcst hfun sl0 sl3 sl5 fin
      exact opv_val (by go_simp <;> rfl) ⟨gw_self _, rfl⟩
    · refine owes_v (Go.Op.buildSlice 35 1 #[(0, Go.Operand.tmp 26)]) 35 [9] (by kernel_rfl) (by kernel_rfl) (by kernel_rfl) rfl fun vals w1 ρ hG hF hρ hcst hfun => ?_
      have e26 : ρ (.tmp 26) = .agg #[.string st, .int .i64 z] := ((hρ 26).trans (slotJ [9] (by rw [hsz]; decide) (by kernel_rfl))).trans (hF 9 (by decide))
      clear hρ hF hcst hfun sl0 sl3 sl5 fin
      exact opv_val (by go_simp <;> rfl) ⟨Gw.alloc _ _, ⟨_, rfl, Bk.new w1 _ _⟩⟩
  · intro vals w1 hG hF
    exact next_spine2 (by kernel_rfl) (by kernel_rfl) (by kernel_rfl) (by kernel_rfl) (by kernel_rfl) (by kernel_rfl) (fin vals w1 hG (hF 0 (by decide +kernel)) (hF 10 (by decide +kernel)))
theorem NmO.look1O {w : World} {mb : Option Nat} {m : Tb} (h : NmO w mb m) {k : Nm} (hk : nW k) : (Instr.lookup 32 (.map mb) (nV k) false).run Try.prog w = .ok (.int .i64 ((vOf m k).getD 0)) w := by
  cases mb with
  | some b => exact NmIs.look1 h hk
  | none =>
    obtain rfl : m = [] := h
    exact Maps.look_nil (w := w) false lawN Try.underlying32 (zeroI w) (keyOfN hk)
theorem rootsN_len (m : Tb) (ss : List NW) : (rootsN m ss).length = (sortW ss).length := by unfold rootsN; simp
theorem rootsN_step {m : Tb} {ss : List NW} {j : Nat} {hj : j < (sortW ss).length} {x : NW} (hx : x = (sortW ss)[j]) {st : ByteArray} {z : Int} (hst : st = strB (cutN x.1)) (hz : z = (vOf m x.1).getD 0) : (rootsN m ss).take (j + 1) = (rootsN m ss).take j ++ [(st, z)] := by
  have h : j < (rootsN m ss).length := by rw [rootsN_len]; exact hj
  rw [List.take_add_one, List.getElem?_eq_getElem h]
  subst hst hz hx
  simp [rootsN]
theorem TR.mono {w : World} {b b' : Nat} {v : Value} {l : List (ByteArray × Int)} (h : TR w b v l) (hb : b' ≤ b) : TR w b' v l := by
  obtain ⟨h1, h2⟩ := h
  refine ⟨h1, ?_⟩
  rcases h2 with h2 | ⟨g, cap, cur, e, hg, r⟩
  · exact .inl h2
  · exact .inr ⟨g, cap, cur, e, Nat.le_trans hb hg, r⟩
theorem RdT.one {w : World} {q : Nat} {E : TypeId} {st : ByteArray} {z : Int} (h : Bk w q E #[.string st, .int .i64 z]) : RdT w (some ⟨q, 0, none⟩) [(st, z)] := by
  intro j u hu
  refine ⟨_, rfl, ?_⟩
  rw [add_offN, Nat.zero_add, h.cell]
  simpa [flatT, tC] using hu
theorem roots_c {B : Nat} {w : World} {g : Nat} {m : Tb} (h : TbX B w g m) (hm : ∀ p ∈ m, nW p.1) (hl : m.length ≤ 1000) :
    Calls Try.prog 17 #[.pointer (some ⟨g, 0, none⟩)] w fun e w' => ∃ (v : Value) (ss : List NW), e = .returned v ∧ (ss.map Subtype.val).Perm (m.map Prod.fst) ∧ TR w' w.heap.size v (rootsN m ss) ∧ Below w.heap.size w w' := by
  obtain ⟨mb, h1, h2, _, _⟩ := h
  have hseq := keysO_gives Fence.wide 4 trivial rfl (by omega) w.heap.size mb m (w.alloc (.cells #[.map mb] 32)) (by simp) ((Bk.new w 32 #[.map mb]).cell 0) (h2.kept (Kept.of_below (Gw.alloc w _) (fun _ => False)) (fun _ _ f => f))
  have HS := Lib.hid (sortedN_c 29 #[.pointer (some ⟨w.heap.size, 0, none⟩)] (enters_of Try.func29 (by kernel_rfl) rfl) _ m.length (by omega) _ hseq (fun ss hS => by rw [perm_names hS]; omega))
  have HG := Lib.hid h1
  have HM := Lib.hid h2
  have HL0 := Lib.hid hl
  have c0 := h1.cell 0
  clear hseq h1 h2 hl hm
  go_enter Try.func17, Try.ntmps17
  go_wp2_with fail
  refine Calls.mono (mkeysN_c mb w) ?_
  rintro e w1 ⟨rfl, rfl⟩
  go_wp2_with fail
  refine Calls.mono HS.out ?_
  rintro e w2 ⟨v, ss, rfl, hS, hr, hb⟩
  obtain ⟨A, c, rfl, _, _⟩ := hr.slice
  obtain ⟨L, hL⟩ : ∃ L, L = (sortW ss).length := ⟨_, rfl⟩
  rw [← hL] at hr ⊢
  have HLn := Lib.hid hL
  have HLm := Lib.hid (show L = m.length from by rw [hL, sortW_len]; exact perm_names hS)
  have HB2 := Lib.hid (show Below w.heap.size w w2 from (Gw.alloc w _).trans (hb.mono (by simp)))
  have HR2 := Lib.hid (And.intro hr hS)
  have HH := Lib.hid (show w.heap.size < (w.alloc (.cells #[.map mb] 32)).heap.size from by simp)
  clear hr hb hS HS hL
  go_wp2_with fail
  go_loopw [3, 13] (fun v i wr => ∃ j : Nat, i = .int .i64 j ∧ j ≤ L ∧ Below w2.heap.size w2 wr ∧ TR wr w2.heap.size v ((rootsN m ss).take j)) (fun _ i _ => L - (intOf i).toNat)
  case atStart => exact ⟨0, rfl, by omega, Below.refl _ _, by rw [List.take_zero]; exact TR.nil _ _⟩
  case round =>
    obtain ⟨j, rfl, hjL, hb, hrow⟩ := hrel
    have HB := Lib.hid hb
    have HT := Lib.hid hrow
    by_cases hlt : j < L
    · have hj : j < (sortW ss).length := by rw [← HLn.out]; exact hlt
      obtain ⟨q, rfl, _, hq, hcells⟩ := HR2.out.1.atN j hj
      obtain ⟨x, hx⟩ : ∃ x, x = (sortW ss)[j] := ⟨_, rfl⟩
      rw [← hx] at hcells
      obtain ⟨st, hst⟩ : ∃ st, st = strB (cutN x.1) := ⟨_, rfl⟩
      obtain ⟨z, hz⟩ : ∃ z, z = (vOf m x.1).getD 0 := ⟨_, rfl⟩
      have HTK := Lib.hid (show (rootsN m ss).take (j + 1) = (rootsN m ss).take j ++ [(st, z)] from rootsN_step hx hst hz)
      have HC := Lib.hid (show ∀ i u, (x.1.map b8)[i]? = some u → wr.cell? ((⟨q, j * 32, none⟩ : Addr).add i) = some u from fun i u hu => (hb.cell (p := (⟨q, j * 32, none⟩ : Addr).add i) (by rw [add_block]; exact hq)).trans (hcells i u hu))
      have HST := Lib.hid (fun W => string_c W x.1 x.2)
      rw [← hst] at HST
      unfold nV at HST
      obtain ⟨arr, harr⟩ : ∃ arr, arr = nC x.1 := ⟨_, rfl⟩
      rw [← harr] at HST
      have HA := Lib.hid harr
      have HAS := Lib.hid (show arr.size = 32 from by rw [harr]; exact nC_size x.2)
      have HAO := Lib.hid (show arr.all (·.oneCell') = true from by rw [harr]; exact nC_one x.1)
      obtain ⟨za, hza⟩ : ∃ za, za = nC zN := ⟨_, rfl⟩
      have hzero := zeroN
      rw [← hza] at hzero
      have HZS := Lib.hid (show za.size = 32 from by rw [hza]; exact nC_size zN_w)
      have HNA := Lib.hid (Bk.new wr 24 za)
      have HGA := Lib.hid (Gw.alloc wr (.cells za 24))
      have HZ := Lib.hid hz
      have p1 : (0 : Int) ≤ (j : Int) := by omega
      have p2 : (j : Int) < (L : Int) := by omega
      have p3 : (L : Int) ≤ 1000 := by have := HLm.out; have := HL0.out; omega
      clear hcells hrow hza harr hst hz hx hj hb hq
      go_wp2_with (first
        | (refine wp_loadC rfl _ rfl ⟨q, j * 32, none⟩ rfl x.1 x.2 HC.out ?_; rw [← HA.out])
        | (refine wp_storeN rfl _ _ rfl wr.heap.size arr rfl rfl 24 za HNA.out HAS.out HZS.out HAO.out ?_; intro w5 k5 b5 o5; have HK5 := Lib.hid k5; have HB5 := Lib.hid (HGA.out.trans ((b5 wr.heap.size (Nat.le_refl _)))); clear k5 b5 o5))
      have HB6 := Lib.hid (HB.out.trans (HB5.out.mono HB.out.size))
      have HT5 := Lib.hid (HT.out.below HB5.out)
      have HL := Lib.hid (show ∀ W, Below w5.heap.size w5 W → (Instr.lookup 32 (.map mb) (.agg arr) false).run Try.prog W = .ok (.int .i64 z) W from fun W hW => by
        have h5 := HB2.out.trans ((HB6.out.trans (hW.mono HB6.out.size)).mono HB2.out.size)
        have h6 := (HM.out.kept (Kept.of_below h5 (fun _ => False)) (fun _ _ f => f)).look1O (x.2)
        rw [nV, ← HA.out, ← HZ.out] at h6
        exact h6)
      have hg5 := (HG.out.below (HB2.out.trans (HB6.out.mono HB2.out.size)) HG.out.lt)
      refine roN_reg _ _ _ g wr.heap.size mb arr z st u3 HAS.out hg5 HK5.out HST HL rfl ?_ ?_ ?_ ?_
      · rfl
      · rfl
      · rfl
      intro vals w7 hG h17 h27
      unfold IsV at h17
      obtain ⟨q7, h27, hk27⟩ := h27
      simp only [putD, Act.put, List.setIfInBounds_toArray, List.set_cons_zero, List.set_cons_succ, h17, h27]
      have HB7 := Lib.hid (HB6.out.trans (hG.mono HB6.out.size))
      have HT7 := Lib.hid (HT5.out.below hG)
      have HRd := Lib.hid (RdT.one hk27)
      have HLn2 := Lib.hid (show ((rootsN m ss).take j).length + [(st, z)].length ≤ 100000 from by
        have h1 := HLm.out
        have h2 := HL0.out
        rw [List.length_take]
        simp only [List.length_cons, List.length_nil]
        omega)
      clear hG h17 h27 hk27 hg5 HL HST
      go_wp2_with (at_builtin; refine wp_appT rfl (.tmp 17) (.tmp 27) rfl rfl HT7.out (some ⟨q7, 0, none⟩) 1 1 [(st, z)] rfl rfl HRd.out HLn2.out HB7.out.size ?_; intro v8 w8 ht8 hb8 hg8 hv8; rw [← HTK.out] at ht8; have H8 := Lib.hid (And.intro ht8 hb8); clear ht8 hb8 hg8 hv8)
      refine ⟨rfl, trivial, ?_⟩
      go_wp2_with fail
      go_roundw
      case rel => exact ⟨j + 1, by go_num, by omega, HB7.out.trans H8.out.2, H8.out.1⟩
      case measure => (first | (simp [intOf]; done) | (simp [intOf]; omega))
    · have hjl : j = L := by omega
      clear hrow
      go_wp2_with fail
      go_ret
      have ht := HT.out
      rw [hjl, List.take_of_length_le (by rw [rootsN_len, ← HLn.out]; exact Nat.le_refl _)] at ht
      exact ⟨_, ss, rfl, HR2.out.2, ht.mono HB2.out.size, HB2.out.trans (HB.out.mono HB2.out.size)⟩
end Go.Proofs.Ytdfhdgdhhgabbaa
