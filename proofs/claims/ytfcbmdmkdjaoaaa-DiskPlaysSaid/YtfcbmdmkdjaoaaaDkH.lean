/- disk.Disk's settle, as Sync calls it. Conditions: lengths. -/
import Derived.Test.YtfcbmdmkdjaoaaaDkG
namespace Go.Proofs.Ytfcbmdmkdjaoaaa
set_option linter.unusedVariables false
set_option linter.unusedSimpArgs false
open Go.RowKit Go.Maps
set_option maxHeartbeats 400000
set_option maxRecDepth 100000
theorem dall_c (w : World) (k : Int) : Calls Try.prog 32 #[.int .i64 k] w fun e w' => e = .returned (.bool true) ∧ w' = w := by
  go_enter Try.func32, Try.ntmps32
  go_wp2
  go_ret
  exact ⟨rfl, rfl⟩
theorem dof_ret {P : Program} {f : FuncId} {args : Array Value} {v : Value} {w : World} (h : Calls P f args w (RetP v w)) : Calls P f args w fun e w2 => ∃ u, e = .returned u ∧ Below w.heap.size w w2 ∧ IsV v u w2 :=
  h.mono fun _ _ h => ⟨v, h.1, h.2, rfl⟩
theorem dst_reg (Q : Exit → Act → World → Prop) (a0 : Act) (w : World) (g b s o n rc cj kb : Nat) (Aj : Option Addr) (hb : b < w.heap.size) (c0 : w.cell? ⟨b, 0, none⟩ = some (.int .i64 s)) (c1 : w.cell? ⟨b, 1, none⟩ = some (.slice Aj n cj)) (hS : Hid (∀ W, Below w.heap.size w W → Calls Try.prog 30 #[.pointer (some ⟨g, 0, none⟩), .agg #[.int .i64 s]] W (RetP (.slice (some ⟨kb, o, none⟩) n rc) W))) (hsz : a0.tmps.size = 34) (sl0 : a0.tmps.getD 0 undef = .pointer (some ⟨g, 0, none⟩)) (sl5 : a0.tmps.getD 5 undef = .pointer (some ⟨b, 0, none⟩))
    (fin : ∀ (vals : Nat → Value) (w1 : World), Below w.heap.size w w1 → (IsV (.slice (some ⟨kb, o, none⟩) n rc)) (vals 3) w1 → (IsV (.slice Aj n cj)) (vals 5) w1 → wpList Try.prog #[{ dst := some 25, op := Go.Op.call { callee := Go.Callee.builtin Go.Builtin.copy, args := #[Go.Operand.tmp 22, Go.Operand.tmp 24], argTypes := #[34, 34] }, type := 3, pos := "", after := #[], guard := none }] Q [{ dst := some 25, op := Go.Op.call { callee := Go.Callee.builtin Go.Builtin.copy, args := #[Go.Operand.tmp 22, Go.Operand.tmp 24], argTypes := #[34, 34] }, type := 3, pos := "", after := #[], guard := none }] (putD vals [19, 20, 21, 22, 23, 24] 0 a0) w1) :
    (Code.region 4 (regIn Try.f31 4) true).wp Try.prog Q a0 w := by
  refine region_by_tail (m := 6) (G := fun w w1 => Below w.heap.size w w1) [IsV (.pointer (some ⟨g, 0, none⟩)),
    IsV (.pointer (some ⟨b, 0, none⟩)),
    IsV (.agg #[.int .i64 s]),
    IsV (.slice (some ⟨kb, o, none⟩) n rc),
    IsV (.pointer (some ⟨b, 1, none⟩)),
    IsV (.slice Aj n cj)]
    [19, 20, 21, 22, 23, 24] (by kernel_rfl) (Gw.drew _) Gw.trans (by rw [hsz]; kernel_rfl) (by kernel_rfl) ?_ ?_ ?_
  · intro f hf
    simp only [List.mem_cons, List.not_mem_nil, or_false] at hf
    rcases hf with rfl | rfl | rfl | rfl | rfl | rfl <;> intro v a b h g <;> first | exact IsV.mono h
  · refine ⟨?_, ?_, ?_, ?_, ?_, ?_, trivial⟩
    · exact owes_mv 0 (by kernel_rfl) (by kernel_rfl) (by kernel_rfl) sl0 (fun _ => rfl)
    · refine owes_v (Go.Op.fieldAddr 70 (Go.Operand.tmp 5) 0) 0 [] (by kernel_rfl) (by kernel_rfl) (by kernel_rfl) rfl fun vals w1 ρ hG hF hρ hcst hfun => ?_
      have e5 : ρ (.tmp 5) = .pointer (some ⟨b, 0, none⟩) := ((hρ 5).trans (slotO [] (by kernel_rfl))).trans sl5
      clear hρ hF hcst hfun sl0 sl5 fin
      exact opv_val (by go_simp <;> rfl) ⟨gw_self _, rfl⟩
    · refine owes_v (Go.Op.load 67 (Go.Operand.tmp 20)) 67 [1] (by kernel_rfl) (by kernel_rfl) (by kernel_rfl) rfl fun vals w1 ρ hG hF hρ hcst hfun => ?_
      have e20 : ρ (.tmp 20) = .pointer (some ⟨b, 0, none⟩) := ((hρ 20).trans (slotJ [1] (by rw [hsz]; decide) (by kernel_rfl))).trans (hF 1 (by decide))
      have k := (hG.cell (p := ⟨b, 0, none⟩) hb).trans c0
      clear hρ hF hcst hfun sl0 sl5 fin
      exact opv_val (by go_simp <;> rfl) ⟨gw_self _, rfl⟩
    · refine owes_v (Go.Op.call { callee := Go.Callee.value (Go.Operand.func 30), args := #[Go.Operand.tmp 19, Go.Operand.tmp 21], argTypes := #[24, 67] }) 34 [0, 2] (by kernel_rfl) (by kernel_rfl) (by kernel_rfl) rfl fun vals w1 ρ hG hF hρ hcst hfun => ?_
      have e19 : ρ (.tmp 19) = .pointer (some ⟨g, 0, none⟩) := ((hρ 19).trans (slotJ [0, 2] (by rw [hsz]; decide) (by kernel_rfl))).trans (hF 0 (by decide))
      have e21 : ρ (.tmp 21) = .agg #[.int .i64 s] := ((hρ 21).trans (slotJ [0, 2] (by rw [hsz]; decide) (by kernel_rfl))).trans (hF 2 (by decide))
      clear hρ hF hcst sl0 sl5 fin
      exact opv_enter (by go_simp <;> rfl) (dof_ret (hS.out w1 hG))
    · refine owes_v (Go.Op.fieldAddr 70 (Go.Operand.tmp 5) 1) 0 [] (by kernel_rfl) (by kernel_rfl) (by kernel_rfl) rfl fun vals w1 ρ hG hF hρ hcst hfun => ?_
      have e5 : ρ (.tmp 5) = .pointer (some ⟨b, 0, none⟩) := ((hρ 5).trans (slotO [] (by kernel_rfl))).trans sl5
      clear hρ hF hcst hfun sl0 sl5 fin
      exact opv_val (by go_simp <;> rfl) ⟨gw_self _, rfl⟩
    · refine owes_v (Go.Op.load 34 (Go.Operand.tmp 23)) 34 [4] (by kernel_rfl) (by kernel_rfl) (by kernel_rfl) rfl fun vals w1 ρ hG hF hρ hcst hfun => ?_
      have e23 : ρ (.tmp 23) = .pointer (some ⟨b, 1, none⟩) := ((hρ 23).trans (slotJ [4] (by rw [hsz]; decide) (by kernel_rfl))).trans (hF 4 (by decide))
      have k := (hG.cell (p := ⟨b, 1, none⟩) hb).trans c1
      clear hρ hF hcst hfun sl0 sl5 fin
      exact opv_val (by go_simp <;> rfl) ⟨gw_self _, rfl⟩
  · intro vals w1 hG hF
    exact last_list (by kernel_rfl) (by kernel_rfl) (by kernel_rfl) (fin vals w1 hG (hF 3 (by decide +kernel)) (hF 5 (by decide +kernel)))
section
variable {w : World} {g : Nat} {x : DX} {d : DK}
theorem DiskAt.noPend {w' : World} {n0 : Nat} (h : DiskAt w g x d) (hB : Bk w' g 64 #[.int .i64 d.size, .slice (some ⟨x.kb, 0, none⟩) d.kept.length x.kc, .slice none 0 0, .map (some x.mb), .bool d.off, .int .i64 d.armed, .slice x.eA d.keep.length x.ec, .int .i64 d.writes])
    (hM : MapFn w' x.mb 0 (fun _ => 0)) (hk : Kept (fun k => k = g ∨ k = x.mb) w w') : DiskAt w' g { x with pA := none, pc := 0 } { d with pend := [] } :=
  ⟨hB, hk.ow h.kept (fun k e => by obtain ⟨a, e1, rfl⟩ := own_slice e; injection e1 with e1; subst e1; rintro (e | e); exact h.n1 e; exact h.n3 e.symm), ⟨[], rfl, ⟨by simp, .inl ⟨rfl, rfl⟩⟩, fun q h => by cases h⟩,
   hM, hk.rd h.keep (fun a e e2 => by rcases e2 with e2 | e2; exact (h.n5 _ (h.keepD a e)).1 e2; exact (h.n5 _ (h.keepD a e)).2.2.1 e2), h.keepD, fun k e => Nat.lt_of_lt_of_le (h.Dlt k e) hk.size, h.n1, h.n2, h.n3, (fun a e => by cases e), (fun k e => ⟨(h.n5 k e).1, (h.n5 k e).2.1, (h.n5 k e).2.2.1, fun a e => by cases e⟩), h.sz, h.sc, h.kl, (fun p h => by cases h), ⟨by simp, h.lim.2⟩⟩
theorem dsettle_all (h : DiskAt w g x d) : Calls Try.prog 31 #[.pointer (some ⟨g, 0, none⟩), .func (.func 32) #[] #[]] w fun e w' => e = .returned (.tuple #[]) ∧ DiskAt w' g { x with pA := none, pc := 0 } { d with kept := layL d.size (fun _ => true) d.pend 0 d.kept, pend := [] } ∧ Kept (Md g x) w w' := by
  have HA := Lib.hid dall_c
  have c2 := h.blk.eight.2.2.1
  have hP3 := h.lim.1
  have H := Lib.hid h
  obtain ⟨P, hP⟩ : ∃ P, P = d.pend.length := ⟨_, rfl⟩
  rw [← hP] at c2 hP3
  have HP := Lib.hid hP
  have q3 : (P : Int) ≤ 100000 := by omega
  clear h hP hP3
  go_enter Try.func31, Try.ntmps31
  go_wp2_with fail
  go_loopw [11] (fun i wr => ∃ k : Nat, k ≤ P ∧ i = .int .i64 k ∧ DiskAt wr g x (d.lay (layL d.size (fun _ => true) (d.pend.take k) 0 d.kept)) ∧ Kept (Md g x) w wr) (fun i _ => P - (intOf i).toNat)
  case atStart => exact ⟨0, by omega, rfl, by rw [List.take_zero]; exact H.out, Kept.refl _ _⟩
  case round =>
    obtain ⟨k, hk, rfl, ht, hB⟩ := hrel
    by_cases hlt : k < P
    · have p1 : (0 : Int) ≤ (k : Int) := by omega
      have p2 : (k : Int) < (P : Int) := by omega
      have hkl : k < d.pend.length := by rw [← HP.out]; exact hlt
      obtain ⟨ad, Aj, cj, hA, hab, hab2, d1o, d2o, hrd, hcj, hDj⟩ := ht.pend.at_ k hkl
      have hA' : x.pA = some ad := hA
      rw [hA'] at c2 ⊢
      have HT := Lib.hid ht
      have HBB := Lib.hid hB
      have HD := Lib.hid (And.intro hA' (And.intro hab (And.intro hab2 (And.intro hrd (And.intro hcj hDj)))))
      obtain ⟨s, hs⟩ : ∃ s, s = d.pend[k].1 := ⟨_, rfl⟩
      obtain ⟨ys, hys⟩ : ∃ ys, ys = d.pend[k].2 := ⟨_, rfl⟩
      have d1 : wr.cell? (ad.add (k * 2)) = some (.int .i64 s) := by rw [hs]; exact d1o
      have hpl := H.out.pl _ (List.getElem_mem hkl)
      obtain ⟨n, hn⟩ : ∃ n, n = d.size := ⟨_, rfl⟩
      have d2 : wr.cell? ⟨(ad.add (k * 2)).block, (ad.add (k * 2)).off + 1, none⟩ = some (.slice Aj n cj) := by rw [hn, ← hpl.2]; exact d2o
      have hsn : layL d.size (fun _ => true) (d.pend.take (k + 1)) 0 d.kept = layA (layL d.size (fun _ => true) (d.pend.take k) 0 d.kept) (s * n) ys := by
        rw [List.take_succ_eq_append_getElem hkl, layL_snoc, hs, hn, hys]; rfl
      have hsl : s < d.secs := by rw [hs]; exact hpl.1
      have hyl : ys.length = n := by rw [hys, hn]; exact hpl.2
      have hrd : Rd b8 wr wr.heap.size Aj ys := by rw [hys]; exact hrd
      obtain ⟨ks, hks⟩ : ∃ ks, ks = layL d.size (fun _ => true) (d.pend.take k) 0 d.kept := ⟨_, rfl⟩
      have hksl : ks.length = d.kept.length := by rw [hks, layL_len d.size d.secs _ _ _ _ (fun p hp => H.out.pl p (List.mem_of_mem_take hp)) H.out.kl, H.out.kl]
      rw [← hks] at hsn
      have hb1 := Gw.alloc wr (.cells #[.int .i64 s, .slice Aj n cj] 70)
      have HT2 : Hid (DiskAt (wr.alloc (.cells #[.int .i64 s, .slice Aj n cj] 70)) g x (d.lay ks)) := by rw [hks]; exact ht.below hb1
      have HRD := Lib.hid (hrd.alloc (Nat.le_refl _) (.cells #[.int .i64 s, .slice Aj n cj] 70))
      have HSN := Lib.hid (And.intro hsn (And.intro hyl (And.intro hksl (And.intro hsl hn))))
      have hk0 := Bk.new wr 70 #[.int .i64 s, .slice Aj n cj]
      have HREG := Lib.hid (fun Q a0 => dst_reg Q a0 _ g wr.heap.size s (s * n) n (x.kc - s * n) cj x.kb Aj (by simp) (hk0.cell 0) (hk0.cell 1) (Lib.hid (fun W hb => by
        have := dsector_c (HT2.out.below hb) s hsl
        rw [hn]; exact this)))
      clear ht hB hA hab hab2 hrd hcj hDj d1o d2o hsn hyl hksl hks hb1 hk0 hs hys hsl hpl hn
      go_wp2_with fail
      refine Calls.mono (HA.out _ _) ?_
      rintro e w2 ⟨rfl, rfl⟩
      go_wp2_with fail
      refine HREG.out _ _ rfl rfl rfl ?_
      intro vals w3 hG h22 h24
      unfold IsV at h22 h24
      simp only [putD, Act.put, List.setIfInBounds_toArray, List.set_cons_zero, List.set_cons_succ, h22, h24]
      have HT3 := Lib.hid (HT2.out.below hG)
      have HR3 := Lib.hid ((HRD.out.below (hG.mono (by simp))).more (show wr.heap.size ≤ w3.heap.size by have := hG.size; simp at this; omega))
      have HB3 := Lib.hid (HBB.out.trans ((Kept.alloc (Md g x) wr _).trans (Kept.of_below hG _)))
      clear h22 h24 hG
      have hrm := HT3.out.room (s := s) HSN.out.2.2.2.1
      refine wp_lay one8.under (by kernel_rfl) b8_one rfl (.tmp 22) (.tmp 24) rfl 0 x.kb ks.length x.kc (s * n) n _ ks ys HSN.out.2.1 (by have := hrm.1; have e : (d.lay ks).size = n := HSN.out.2.2.2.2.symm; rw [e] at this; exact this) HT3.out.kept rfl Aj cj rfl HR3.out ?_
      intro w4 ho4 hg4
      have HO4 := Lib.hid (HT3.out.lay (layA ks (s * n) ys) (layA_len _ _ _ (by have := hrm.1; have e : (d.lay ks).size = n := HSN.out.2.2.2.2.symm; rw [e] at this; rw [HSN.out.2.1]; exact this)) ho4 hg4)
      have HK4 := Lib.hid (HB3.out.trans ((Kept.grown hg4).more (fun i e => by injection e with e; exact .inr (.inl e.symm))))
      clear ho4 hg4 hrm
      go_wp2_with fail
      go_roundw
      case rel => exact ⟨k + 1, by omega, by go_num, by rw [HSN.out.1]; exact HO4.out, HK4.out⟩
      case measure => (first | (simp [intOf]; done) | (simp [intOf]; omega))
    · obtain rfl : k = P := by omega
      rw [List.take_of_length_le (by rw [← HP.out]; omega)] at ht
      obtain ⟨_, _, c2', c3, _⟩ := ht.blk.eight
      have hfz := ht.blk.free 2
      obtain ⟨ks, hks⟩ : ∃ ks, ks = layL d.size (fun _ => true) d.pend 0 d.kept := ⟨_, rfl⟩
      rw [← hks] at ht
      have hb := ht.blk.set 2 (.slice none 0 0)
      have hk := Kept.set wr g 2 (.slice none 0 0)
      have hc3 : (wr.setCell ⟨g, 2, none⟩ (.slice none 0 0)).cell? ⟨g, 3, none⟩ = some (.map (some x.mb)) := hb.cell 3
      have HM := Lib.hid (ht.map.kept hk ht.n2)
      have HS := Lib.hid (And.intro hb hk)
      have HT := Lib.hid ht
      have HBB := Lib.hid hB
      have HKS := Lib.hid hks
      clear ht hB hb hk hks
      go_wp2_with (refine wp_clear_fn rfl (.tmp 33) rfl rfl HM.out ?_; intro w3 h3 k3; have H3 := Lib.hid h3; have K3 := Lib.hid k3; clear h3 k3)
      go_end0
      have hk3 := HS.out.2.more (S' := fun i => i = g ∨ i = x.mb) (fun i e => .inl e)
      have hk4 := hk3.trans (K3.out.more (fun i e => by injection e with e; exact .inr e.symm))
      refine ⟨rfl, HKS.out ▸ HT.out.noPend (n0 := 0) (K3.out.bk HS.out.1 (fun e => by injection e with e; exact HT.out.n2 e)) H3.out hk4, HBB.out.trans (hk4.more (fun i e => by rcases e with e | e; exact .inl e; exact .inr (.inr (.inl e))))⟩
end
end Go.Proofs.Ytfcbmdmkdjaoaaa
