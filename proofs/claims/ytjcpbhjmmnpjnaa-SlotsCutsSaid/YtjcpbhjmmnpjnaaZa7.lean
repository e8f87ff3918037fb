/- Texts joined: DkG DkH DkI DkJ RegU DkK AppS DkL. -/
import Derived.Test.YtjcpbhjmmnpjnaaZa6
/- Bytes laid into the middle of a row; what settling pending writes leaves. Conditions: lengths. -/
namespace Go.Proofs.Ytjcpbhjmmnpjnaa
set_option linter.unusedVariables false
set_option linter.unusedSimpArgs false
open Go.RowKit Go.Maps
theorem addr_at (q k : Nat) : ((⟨q, 0, none⟩ : Addr).add k) = ⟨q, k, none⟩ := by unfold Addr.add; split <;> simp_all
def layA {α : Type} (ks : List α) (o : Nat) (ys : List α) : List α := ks.take o ++ (ys ++ ks.drop (o + ys.length))
theorem layA_len {α : Type} (ks : List α) (o : Nat) (ys : List α) (h : o + ys.length ≤ ks.length) : (layA ks o ys).length = ks.length := by unfold layA; simp; omega
section
variable {P : Program} {α : Type} {f : α → Value} {t e : TypeId} {w : World} {ops : Array Oper} {rest : List Oper} {o : Oper} {a : Act} {Q : Exit → Act → World → Prop}
/-- 'copy(l[to:][:n], s)' into a row of the call's own. -/
theorem wp_lay (hu : P.underlying t = some (.slice e)) (hsz : (P.info? e).map (·.size) = some 1) (hf : ∀ x, (f x).oneCell' = true) (hgd : o.guard = none) (d s : Operand)
    (ho : o.op = .call { callee := .builtin .copy, args := #[d, s], argTypes := #[t, t] })
    (base q N c to n dc : Nat) (xs ys : List α) (hn : ys.length = n) (hto : to + n ≤ xs.length) (hown : Ow f e w base (.slice (some ⟨q, 0, none⟩) N c) xs)
    (hd : a.eval d = .slice (some ⟨q, to, none⟩) n dc) (A : Option Addr) (sc : Nat) (hs : a.eval s = .slice A n sc) (hr : Rd f w w.heap.size A ys)
    (h : ∀ w', Ow f e w' base (.slice (some ⟨q, 0, none⟩) N c) (layA xs to ys) → w.grownBy w' (some q) → wpList P ops Q rest (a.put o.dst (goInt n)) w') : wpList P ops Q (o :: rest) a w := by
  rcases Nat.eq_zero_or_pos n with h0 | hp
  · subst h0
    have hy : ys = [] := List.eq_nil_of_length_eq_zero hn
    subst hy
    refine wpList_copy_nothing hgd d s t t ho e hu hsz _ _ 0 dc 0 sc hd hs (by simp) (h w ?_ ⟨rfl, rfl, rfl, Nat.le_refl _, fun _ _ _ => rfl⟩)
    unfold layA
    simpa using hown
  · obtain ⟨hl, h2⟩ := hown
    rcases h2 with ⟨e1, _⟩ | ⟨g', cap', cur, e1, hg, hh, hnc, hcm, hcs, htk⟩
    · cases e1
    · injection e1 with e1 e2 e3
      injection e1 with e1
      injection e1 with e1
      subst e1
      subst e3
      obtain ⟨ad, rfl, hab, hc⟩ := hr.addr (by omega)
      have hcs' : cur.size = c := by omega
      rw [Nat.mul_one] at htk
      obtain ⟨R, hR⟩ : ∃ R, cur.toList = xs.map f ++ R := ⟨cur.toList.drop xs.length, by rw [← htk, List.take_append_drop]⟩
      have hlen : (ys.map f).length = n := by simp [hn]
      have hsrc : ∀ j v, (ys.map f)[j]? = some v → w.cell? (ad.add j) = some v := by
        intro j v hv
        have hj : j < n := by
          have := (List.getElem?_eq_some_iff.1 hv).1
          omega
        rw [hc j (by omega)]
        rw [List.getElem?_map, List.getElem?_eq_getElem (by omega)] at hv
        simpa using hv
      refine wpList_copy_own hgd d s t t ho e hu hsz q to n dc ad n sc hd hs cur e hh (ys.map f) (by rw [hlen]; simp) hsrc (by rw [hlen]; omega) (by intro u hu'; rw [List.mem_map] at hu'; obtain ⟨x, _, rfl⟩ := hu'; exact hf x) ?_
      rw [hlen]
      have hnew : cur.toList.take to ++ ((ys.map f) ++ cur.toList.drop (to + n)) = (layA xs to ys).map f ++ R := by
        rw [hR, List.take_append_of_le_length (by simp; omega), List.drop_append_of_le_length (by simp; omega)]
        unfold layA
        simp [List.map_take, List.map_drop, hn]
      rw [hnew]
      have hml := layA_len xs to ys (by omega)
      refine h _ ⟨by simp, .inr ⟨q, c, ((layA xs to ys).map f ++ R).toArray, by rw [hml, e2], hg, setRow_heap w q cur _ e _ hh, by rw [hml]; exact hnc, hcm, ?_, ?_⟩⟩ ⟨rfl, rfl, rfl, by simp [World.setRow], fun k _ hne => setRow_other w q k _ (fun e => hne (by rw [e]))⟩
      · have hs2 : cur.toList.length = (xs.map f ++ R).length := by rw [hR]
        simp [hml] at hs2 ⊢
        omega
      · rw [Nat.mul_one, hml]
        simp [hml]
end
/-- The kept bytes behind some of the pending writes. -/
def layL (size : Nat) (fk : Nat → Bool) : List PW → Nat → List (BitVec 8) → List (BitVec 8)
  | [], _, ks => ks
  | p :: l, i, ks => layL size fk l (i + 1) (if fk i then layA ks (p.1 * size) p.2 else ks)
theorem layL_snoc (size : Nat) (fk : Nat → Bool) (p : PW) : ∀ (L : List PW) (i : Nat) (ks : List (BitVec 8)), layL size fk (L ++ [p]) i ks = if fk (i + L.length) then layA (layL size fk L i ks) (p.1 * size) p.2 else layL size fk L i ks
  | [], i, ks => by simp [layL]
  | q :: l, i, ks => by
    rw [List.cons_append, layL, layL_snoc size fk p l (i + 1), layL, List.length_cons, show i + 1 + l.length = i + (l.length + 1) by omega]
theorem layL_len (size secs : Nat) (fk : Nat → Bool) : ∀ (L : List PW) (i : Nat) (ks : List (BitVec 8)), (∀ p ∈ L, p.1 < secs ∧ p.2.length = size) → ks.length = secs * size → (layL size fk L i ks).length = secs * size
  | [], _, _, _, h => h
  | p :: l, i, ks, hp, h => by
    rw [layL]
    refine layL_len size secs fk l (i + 1) _ (fun q hq => hp q (List.mem_cons_of_mem _ hq)) ?_
    split
    · rw [layA_len, h]
      have := hp p (List.mem_cons_self)
      have h1 := Nat.mul_le_mul_right size this.1
      rw [Nat.succ_mul] at h1
      rw [this.2, h]; omega
    · exact h
def DK.lay (d : DK) (ks : List (BitVec 8)) : DK := { d with kept := ks }
section
variable {w w' : World} {g : Nat} {x : DX} {d : DK}
theorem DiskAt.lay (h : DiskAt w g x d) (ks : List (BitVec 8)) (hl : ks.length = d.kept.length) (ho : Ow b8 5 w' 0 (.slice (some ⟨x.kb, 0, none⟩) d.kept.length x.kc) ks) (hg : w.grownBy w' (some x.kb)) : DiskAt w' g x (d.lay ks) := by
  have hk := Kept.grown hg
  refine ⟨?_, by show Ow _ _ _ _ (.slice _ ks.length _) ks; rw [hl]; exact ho, h.pend.kept hk (fun k e => by obtain ⟨a, e1, rfl⟩ := own_slice e; intro e2; injection e2 with e2; exact (h.n4 a e1).2.1 e2.symm) (fun k e e2 => by injection e2 with e2; exact (h.n5 k e).2.1 e2.symm),
   h.map.kept hk (fun e => by injection e with e; exact h.n3 e.symm), hk.rd h.keep (fun a e e2 => by injection e2 with e2; exact (h.n5 _ (h.keepD a e)).2.1 e2.symm), h.keepD, fun k e => Nat.lt_of_lt_of_le (h.Dlt k e) hk.size, h.n1, h.n2, h.n3, h.n4, h.n5, h.sz, h.sc, by show ks.length = _; rw [hl]; exact h.kl, h.pl, h.lim⟩
  have := hk.bk h.blk (fun e => by injection e with e; exact h.n1 e)
  show Bk w' g _ #[.int .i64 d.size, .slice (some ⟨x.kb, 0, none⟩) ks.length x.kc, _, _, _, _, _, _]
  rw [hl]; exact this
end
end Go.Proofs.Ytjcpbhjmmnpjnaa
/- disk.Disk's settle, as Sync calls it. Conditions: lengths. -/
namespace Go.Proofs.Ytjcpbhjmmnpjnaa
set_option linter.unusedVariables false
set_option linter.unusedSimpArgs false
open Go.RowKit Go.Maps
set_option maxHeartbeats 400000
set_option maxRecDepth 100000
theorem dall_c (w : World) (k : Int) : Calls Try.prog 57 #[.int .i64 k] w fun e w' => e = .returned (.bool true) ∧ w' = w := by
  go_enter Try.func57, Try.ntmps57
  go_wp2
  go_ret
  exact ⟨rfl, rfl⟩
theorem dof_ret {P : Program} {f : FuncId} {args : Array Value} {v : Value} {w : World} (h : Calls P f args w (RetP v w)) : Calls P f args w fun e w2 => ∃ u, e = .returned u ∧ Below w.heap.size w w2 ∧ IsV v u w2 :=
  h.mono fun _ _ h => ⟨v, h.1, h.2, rfl⟩
theorem dst_reg (Q : Exit → Act → World → Prop) (a0 : Act) (w : World) (g b s o n rc cj kb : Nat) (Aj : Option Addr) (hb : b < w.heap.size) (c0 : w.cell? ⟨b, 0, none⟩ = some (.int .i64 s)) (c1 : w.cell? ⟨b, 1, none⟩ = some (.slice Aj n cj)) (hS : Hid (∀ W, Below w.heap.size w W → Calls Try.prog 44 #[.pointer (some ⟨g, 0, none⟩), .agg #[.int .i64 s]] W (RetP (.slice (some ⟨kb, o, none⟩) n rc) W))) (hsz : a0.tmps.size = 34) (sl0 : a0.tmps.getD 0 undef = .pointer (some ⟨g, 0, none⟩)) (sl5 : a0.tmps.getD 5 undef = .pointer (some ⟨b, 0, none⟩))
    (fin : ∀ (vals : Nat → Value) (w1 : World), Below w.heap.size w w1 → (IsV (.slice (some ⟨kb, o, none⟩) n rc)) (vals 3) w1 → (IsV (.slice Aj n cj)) (vals 5) w1 → wpList Try.prog #[{ dst := some 25, op := Go.Op.call { callee := Go.Callee.builtin Go.Builtin.copy, args := #[Go.Operand.tmp 22, Go.Operand.tmp 24], argTypes := #[22, 22] }, type := 3, pos := "", after := #[], guard := none }] Q [{ dst := some 25, op := Go.Op.call { callee := Go.Callee.builtin Go.Builtin.copy, args := #[Go.Operand.tmp 22, Go.Operand.tmp 24], argTypes := #[22, 22] }, type := 3, pos := "", after := #[], guard := none }] (putD vals [19, 20, 21, 22, 23, 24] 0 a0) w1) :
    (Code.region 4 (regIn Try.f56 4) true).wp Try.prog Q a0 w := by
  refine region_by_tail (m := 6) (G := fun w w1 => Below w.heap.size w w1) [IsV (.pointer (some ⟨g, 0, none⟩)),
    IsV (.pointer (some ⟨b, 0, none⟩)),
    IsV (.agg #[.int .i64 s]),
    IsV (.slice (some ⟨kb, o, none⟩) n rc),
    IsV (.pointer (some ⟨b, 1, none⟩)),
    IsV (.slice Aj n cj)]
    [19, 20, 21, 22, 23, 24] (by kernel_rfl) (Gw.drew _) Gw.trans (by rw [hsz]; kernel_rfl) (by kernel_rfl) ?_ ?_ ?_
  · intro f hf
    simp only [List.mem_cons, List.not_mem_nil, or_false] at hf
    rcases hf with rfl | rfl | rfl | rfl | rfl | rfl <;> intro v a b h g <;> first | exact IsV.mono h
  · refine ⟨?_, ?_, ?_, ?_, ?_, ?_, trivial⟩
    · exact owes_mv 0 (by kernel_rfl) (by kernel_rfl) (by kernel_rfl) sl0 (fun _ => rfl)
    · refine owes_v (Go.Op.fieldAddr 89 (Go.Operand.tmp 5) 0) 0 [] (by kernel_rfl) (by kernel_rfl) (by kernel_rfl) rfl fun vals w1 ρ hG hF hρ hcst hfun => ?_
      have e5 : ρ (.tmp 5) = .pointer (some ⟨b, 0, none⟩) := ((hρ 5).trans (slotO [] (by kernel_rfl))).trans sl5
      clear hρ hF hcst hfun sl0 sl5 fin
      exact opv_val (by go_simp <;> rfl) ⟨gw_self _, rfl⟩
    · refine owes_v (Go.Op.load 87 (Go.Operand.tmp 20)) 87 [1] (by kernel_rfl) (by kernel_rfl) (by kernel_rfl) rfl fun vals w1 ρ hG hF hρ hcst hfun => ?_
      have e20 : ρ (.tmp 20) = .pointer (some ⟨b, 0, none⟩) := ((hρ 20).trans (slotJ [1] (by rw [hsz]; decide) (by kernel_rfl))).trans (hF 1 (by decide))
      have k := (hG.cell (p := ⟨b, 0, none⟩) hb).trans c0
      clear hρ hF hcst hfun sl0 sl5 fin
      exact opv_val (by go_simp <;> rfl) ⟨gw_self _, rfl⟩
    · refine owes_v (Go.Op.call { callee := Go.Callee.value (Go.Operand.func 44), args := #[Go.Operand.tmp 19, Go.Operand.tmp 21], argTypes := #[24, 87] }) 22 [0, 2] (by kernel_rfl) (by kernel_rfl) (by kernel_rfl) rfl fun vals w1 ρ hG hF hρ hcst hfun => ?_
      have e19 : ρ (.tmp 19) = .pointer (some ⟨g, 0, none⟩) := ((hρ 19).trans (slotJ [0, 2] (by rw [hsz]; decide) (by kernel_rfl))).trans (hF 0 (by decide))
      have e21 : ρ (.tmp 21) = .agg #[.int .i64 s] := ((hρ 21).trans (slotJ [0, 2] (by rw [hsz]; decide) (by kernel_rfl))).trans (hF 2 (by decide))
      clear hρ hF hcst sl0 sl5 fin
      exact opv_enter (by go_simp <;> rfl) (dof_ret (hS.out w1 hG))
    · refine owes_v (Go.Op.fieldAddr 89 (Go.Operand.tmp 5) 1) 0 [] (by kernel_rfl) (by kernel_rfl) (by kernel_rfl) rfl fun vals w1 ρ hG hF hρ hcst hfun => ?_
      have e5 : ρ (.tmp 5) = .pointer (some ⟨b, 0, none⟩) := ((hρ 5).trans (slotO [] (by kernel_rfl))).trans sl5
      clear hρ hF hcst hfun sl0 sl5 fin
      exact opv_val (by go_simp <;> rfl) ⟨gw_self _, rfl⟩
    · refine owes_v (Go.Op.load 22 (Go.Operand.tmp 23)) 22 [4] (by kernel_rfl) (by kernel_rfl) (by kernel_rfl) rfl fun vals w1 ρ hG hF hρ hcst hfun => ?_
      have e23 : ρ (.tmp 23) = .pointer (some ⟨b, 1, none⟩) := ((hρ 23).trans (slotJ [4] (by rw [hsz]; decide) (by kernel_rfl))).trans (hF 4 (by decide))
      have k := (hG.cell (p := ⟨b, 1, none⟩) hb).trans c1
      clear hρ hF hcst hfun sl0 sl5 fin
      exact opv_val (by go_simp <;> rfl) ⟨gw_self _, rfl⟩
  · intro vals w1 hG hF
    exact last_list (by kernel_rfl) (by kernel_rfl) (by kernel_rfl) (fin vals w1 hG (hF 3 (by decide +kernel)) (hF 5 (by decide +kernel)))
section
variable {w : World} {g : Nat} {x : DX} {d : DK}
theorem DiskAt.noPend {w' : World} {n0 : Nat} (h : DiskAt w g x d) (hB : Bk w' g 78 #[.int .i64 d.size, .slice (some ⟨x.kb, 0, none⟩) d.kept.length x.kc, .slice none 0 0, .map (some x.mb), .bool d.off, .int .i64 d.armed, .slice x.eA d.keep.length x.ec, .int .i64 d.writes])
    (hM : MapFn w' x.mb 0 (fun _ => 0)) (hk : Kept (fun k => k = g ∨ k = x.mb) w w') : DiskAt w' g { x with pA := none, pc := 0 } { d with pend := [] } :=
  ⟨hB, hk.ow h.kept (fun k e => by obtain ⟨a, e1, rfl⟩ := own_slice e; injection e1 with e1; subst e1; rintro (e | e); exact h.n1 e; exact h.n3 e.symm), ⟨[], rfl, ⟨by simp, .inl ⟨rfl, rfl⟩⟩, fun q h => by cases h⟩,
   hM, hk.rd h.keep (fun a e e2 => by rcases e2 with e2 | e2; exact (h.n5 _ (h.keepD a e)).1 e2; exact (h.n5 _ (h.keepD a e)).2.2.1 e2), h.keepD, fun k e => Nat.lt_of_lt_of_le (h.Dlt k e) hk.size, h.n1, h.n2, h.n3, (fun a e => by cases e), (fun k e => ⟨(h.n5 k e).1, (h.n5 k e).2.1, (h.n5 k e).2.2.1, fun a e => by cases e⟩), h.sz, h.sc, h.kl, (fun p h => by cases h), ⟨by simp, h.lim.2⟩⟩
theorem dsettle_all (h : DiskAt w g x d) : Calls Try.prog 56 #[.pointer (some ⟨g, 0, none⟩), .func (.func 57) #[] #[]] w fun e w' => e = .returned (.tuple #[]) ∧ DiskAt w' g { x with pA := none, pc := 0 } { d with kept := layL d.size (fun _ => true) d.pend 0 d.kept, pend := [] } ∧ Kept (Md g x) w w' := by
  have HA := Lib.hid dall_c
  have c2 := h.blk.eight.2.2.1
  have hP3 := h.lim.1
  have H := Lib.hid h
  obtain ⟨P, hP⟩ : ∃ P, P = d.pend.length := ⟨_, rfl⟩
  rw [← hP] at c2 hP3
  have HP := Lib.hid hP
  have q3 : (P : Int) ≤ 100000 := by omega
  clear h hP hP3
  go_enter Try.func56, Try.ntmps56
  go_wp2_with fail
  go_loopw [11] (fun i wr => ∃ k : Nat, k ≤ P ∧ i = .int .i64 k ∧ DiskAt wr g x (d.lay (layL d.size (fun _ => true) (d.pend.take k) 0 d.kept)) ∧ Kept (Md g x) w wr) (fun i _ => P - (intOf i).toNat)
  case atStart => exact ⟨0, by omega, rfl, by rw [List.take_zero]; exact H.out, Kept.refl _ _⟩
  case round =>
    obtain ⟨k, hk, rfl, ht, hB⟩ := hrel
    by_cases hlt : k < P
    · have p1 : (0 : Int) ≤ (k : Int) := by omega
      have p2 : (k : Int) < (P : Int) := by omega
      have hkl : k < d.pend.length := by rw [← HP.out]; exact hlt
      obtain ⟨ad, Aj, cj, hA, hab, hab2, d1o, d2o, hrd, hcj, hDj⟩ := ht.pend.at_ k hkl
      have hA' : x.pA = some ad := hA
      rw [hA'] at c2 ⊢
      have HT := Lib.hid ht
      have HBB := Lib.hid hB
      have HD := Lib.hid (And.intro hA' (And.intro hab (And.intro hab2 (And.intro hrd (And.intro hcj hDj)))))
      obtain ⟨s, hs⟩ : ∃ s, s = d.pend[k].1 := ⟨_, rfl⟩
      obtain ⟨ys, hys⟩ : ∃ ys, ys = d.pend[k].2 := ⟨_, rfl⟩
      have d1 : wr.cell? (ad.add (k * 2)) = some (.int .i64 s) := by rw [hs]; exact d1o
      have hpl := H.out.pl _ (List.getElem_mem hkl)
      obtain ⟨n, hn⟩ : ∃ n, n = d.size := ⟨_, rfl⟩
      have d2 : wr.cell? ⟨(ad.add (k * 2)).block, (ad.add (k * 2)).off + 1, none⟩ = some (.slice Aj n cj) := by rw [hn, ← hpl.2]; exact d2o
      have hsn : layL d.size (fun _ => true) (d.pend.take (k + 1)) 0 d.kept = layA (layL d.size (fun _ => true) (d.pend.take k) 0 d.kept) (s * n) ys := by
        rw [List.take_succ_eq_append_getElem hkl, layL_snoc, hs, hn, hys]; rfl
      have hsl : s < d.secs := by rw [hs]; exact hpl.1
      have hyl : ys.length = n := by rw [hys, hn]; exact hpl.2
      have hrd : Rd b8 wr wr.heap.size Aj ys := by rw [hys]; exact hrd
      obtain ⟨ks, hks⟩ : ∃ ks, ks = layL d.size (fun _ => true) (d.pend.take k) 0 d.kept := ⟨_, rfl⟩
      have hksl : ks.length = d.kept.length := by rw [hks, layL_len d.size d.secs _ _ _ _ (fun p hp => H.out.pl p (List.mem_of_mem_take hp)) H.out.kl, H.out.kl]
      rw [← hks] at hsn
      have hb1 := Gw.alloc wr (.cells #[.int .i64 s, .slice Aj n cj] 89)
      have HT2 : Hid (DiskAt (wr.alloc (.cells #[.int .i64 s, .slice Aj n cj] 89)) g x (d.lay ks)) := by rw [hks]; exact ht.below hb1
      have HRD := Lib.hid (hrd.alloc (Nat.le_refl _) (.cells #[.int .i64 s, .slice Aj n cj] 89))
      have HSN := Lib.hid (And.intro hsn (And.intro hyl (And.intro hksl (And.intro hsl hn))))
      have hk0 := Bk.new wr 89 #[.int .i64 s, .slice Aj n cj]
      have HREG := Lib.hid (fun Q a0 => dst_reg Q a0 _ g wr.heap.size s (s * n) n (x.kc - s * n) cj x.kb Aj (by simp) (hk0.cell 0) (hk0.cell 1) (Lib.hid (fun W hb => by
        have := dsector_c (HT2.out.below hb) s hsl
        rw [hn]; exact this)))
      clear ht hB hA hab hab2 hrd hcj hDj d1o d2o hsn hyl hksl hks hb1 hk0 hs hys hsl hpl hn
      go_wp2_with fail
      refine Calls.mono (HA.out _ _) ?_
      rintro e w2 ⟨rfl, rfl⟩
      go_wp2_with fail
      refine HREG.out _ _ rfl rfl rfl ?_
      intro vals w3 hG h22 h24
      unfold IsV at h22 h24
      simp only [putD, Act.put, List.setIfInBounds_toArray, List.set_cons_zero, List.set_cons_succ, h22, h24]
      have HT3 := Lib.hid (HT2.out.below hG)
      have HR3 := Lib.hid ((HRD.out.below (hG.mono (by simp))).more (show wr.heap.size ≤ w3.heap.size by have := hG.size; simp at this; omega))
      have HB3 := Lib.hid (HBB.out.trans ((Kept.alloc (Md g x) wr _).trans (Kept.of_below hG _)))
      clear h22 h24 hG
      have hrm := HT3.out.room (s := s) HSN.out.2.2.2.1
      refine wp_lay one8.under (by kernel_rfl) b8_one rfl (.tmp 22) (.tmp 24) rfl 0 x.kb ks.length x.kc (s * n) n _ ks ys HSN.out.2.1 (by have := hrm.1; have e : (d.lay ks).size = n := HSN.out.2.2.2.2.symm; rw [e] at this; exact this) HT3.out.kept rfl Aj cj rfl HR3.out ?_
      intro w4 ho4 hg4
      have HO4 := Lib.hid (HT3.out.lay (layA ks (s * n) ys) (layA_len _ _ _ (by have := hrm.1; have e : (d.lay ks).size = n := HSN.out.2.2.2.2.symm; rw [e] at this; rw [HSN.out.2.1]; exact this)) ho4 hg4)
      have HK4 := Lib.hid (HB3.out.trans ((Kept.grown hg4).more (fun i e => by injection e with e; exact .inr (.inl e.symm))))
      clear ho4 hg4 hrm
      go_wp2_with fail
      go_roundw
      case rel => exact ⟨k + 1, by omega, by go_num, by rw [HSN.out.1]; exact HO4.out, HK4.out⟩
      case measure => (first | (simp [intOf]; done) | (simp [intOf]; omega))
    · obtain rfl : k = P := by omega
      rw [List.take_of_length_le (by rw [← HP.out]; omega)] at ht
      obtain ⟨_, _, c2', c3, _⟩ := ht.blk.eight
      have hfz := ht.blk.free 2
      obtain ⟨ks, hks⟩ : ∃ ks, ks = layL d.size (fun _ => true) d.pend 0 d.kept := ⟨_, rfl⟩
      rw [← hks] at ht
      have hb := ht.blk.set 2 (.slice none 0 0)
      have hk := Kept.set wr g 2 (.slice none 0 0)
      have hc3 : (wr.setCell ⟨g, 2, none⟩ (.slice none 0 0)).cell? ⟨g, 3, none⟩ = some (.map (some x.mb)) := hb.cell 3
      have HM := Lib.hid (ht.map.kept hk ht.n2)
      have HS := Lib.hid (And.intro hb hk)
      have HT := Lib.hid ht
      have HBB := Lib.hid hB
      have HKS := Lib.hid hks
      clear ht hB hb hk hks
      go_wp2_with (refine wp_clear_fn rfl (.tmp 33) rfl rfl HM.out ?_; intro w3 h3 k3; have H3 := Lib.hid h3; have K3 := Lib.hid k3; clear h3 k3)
      go_end0
      have hk3 := HS.out.2.more (S' := fun i => i = g ∨ i = x.mb) (fun i e => .inl e)
      have hk4 := hk3.trans (K3.out.more (fun i e => by injection e with e; exact .inr e.symm))
      refine ⟨rfl, HKS.out ▸ HT.out.noPend (n0 := 0) (K3.out.bk HS.out.1 (fun e => by injection e with e; exact HT.out.n2 e)) H3.out hk4, HBB.out.trans (hk4.more (fun i e => by rcases e with e | e; exact .inl e; exact .inr (.inr (.inl e))))⟩
end
end Go.Proofs.Ytjcpbhjmmnpjnaa
/- disk.Disk's settle, as Cut calls it. Conditions: lengths. -/
namespace Go.Proofs.Ytjcpbhjmmnpjnaa
set_option linter.unusedVariables false
set_option linter.unusedSimpArgs false
open Go.RowKit Go.Maps
set_option maxHeartbeats 400000
set_option maxRecDepth 100000
theorem dcut1_c (w : World) (cb : Nat) (kA : Option Addr) (kp : List Bool) (kn kc : Nat) (hkn : kn = kp.length) (hcb : w.cell? ⟨cb, 0, none⟩ = some (.slice kA kn kc)) (hkr : Rd boV w w.heap.size kA kp) (hkl : kn ≤ 100000) (k : Nat) :
    Calls Try.prog 66 #[.int .i64 k, .pointer (some ⟨cb, 0, none⟩)] w fun e w' => e = .returned (.bool (kp.getD k false)) ∧ w' = w := by
  have q1 : (kn : Int) ≤ 100000 := by omega
  have q2 : (0 : Int) ≤ (k : Int) := by omega
  by_cases hlt : k < kn
  · have hl : k < kp.length := by rw [← hkn]; exact hlt
    obtain ⟨ad, rfl, hab, hc⟩ := hkr k hl
    have hg : kp.getD k false = kp[k] := by rw [List.getD_eq_getElem?_getD, List.getElem?_eq_getElem hl]; rfl
    rw [hg]
    unfold boV at hc
    obtain ⟨b, hb⟩ : ∃ b, b = kp[k] := ⟨_, rfl⟩
    rw [← hb] at hc ⊢
    have q3 : (k : Int) < (kn : Int) := by omega
    clear hb hg hab hkr hkn hl
    go_enter Try.func66, Try.ntmps66
    go_wp2
    go_ret
    exact ⟨rfl, rfl⟩
  · have hg : kp.getD k false = false := by rw [List.getD_eq_getElem?_getD, List.getElem?_eq_none (by omega)]; rfl
    rw [hg]
    clear hg hkr hkn
    go_enter Try.func66, Try.ntmps66
    go_wp2
    go_ret
    exact ⟨rfl, rfl⟩
section
variable {w : World} {g : Nat} {x : DX} {d : DK}
theorem dsettle_cut (h : DiskAt w g x d) (cb : Nat) (kA : Option Addr) (kp : List Bool) (kn kc : Nat) (hkn : kn = kp.length) (hcb : w.cell? ⟨cb, 0, none⟩ = some (.slice kA kn kc)) (hcl : cb < w.heap.size) (hcm : ¬ Md g x cb) (hkr : Rd boV w w.heap.size kA kp) (hkm : ∀ a, kA = some a → ¬ Md g x a.block) (hkl : kn ≤ 100000) : Calls Try.prog 56 #[.pointer (some ⟨g, 0, none⟩), .func (.func 66) #[] #[.pointer (some ⟨cb, 0, none⟩)]] w fun e w' => e = .returned (.tuple #[]) ∧ DiskAt w' g { x with pA := none, pc := 0 } { d with kept := layL d.size (fun i => kp.getD i false) d.pend 0 d.kept, pend := [] } ∧ Kept (Md g x) w w' := by
  have HA := Lib.hid (fun W (hk : Kept (Md g x) w W) (k : Nat) => dcut1_c W cb kA kp kn kc hkn ((hk.cell (p := ⟨cb, 0, none⟩) hcl hcm).trans hcb) (hk.rd hkr hkm) hkl k)
  clear hcb hcl hcm hkr hkm hkn hkl
  have c2 := h.blk.eight.2.2.1
  have hP3 := h.lim.1
  have H := Lib.hid h
  obtain ⟨P, hP⟩ : ∃ P, P = d.pend.length := ⟨_, rfl⟩
  rw [← hP] at c2 hP3
  have HP := Lib.hid hP
  have q3 : (P : Int) ≤ 100000 := by omega
  clear h hP hP3
  go_enter Try.func56, Try.ntmps56
  go_wp2_with fail
  go_loopw [11] (fun i wr => ∃ k : Nat, k ≤ P ∧ i = .int .i64 k ∧ DiskAt wr g x (d.lay (layL d.size (fun i => kp.getD i false) (d.pend.take k) 0 d.kept)) ∧ Kept (Md g x) w wr) (fun i _ => P - (intOf i).toNat)
  case atStart => exact ⟨0, by omega, rfl, by rw [List.take_zero]; exact H.out, Kept.refl _ _⟩
  case round =>
    obtain ⟨k, hk, rfl, ht, hB⟩ := hrel
    by_cases hlt : k < P
    · have p1 : (0 : Int) ≤ (k : Int) := by omega
      have p2 : (k : Int) < (P : Int) := by omega
      have hkl : k < d.pend.length := by rw [← HP.out]; exact hlt
      obtain ⟨ad, Aj, cj, hA, hab, hab2, d1o, d2o, hrd, hcj, hDj⟩ := ht.pend.at_ k hkl
      have hA' : x.pA = some ad := hA
      rw [hA'] at c2 ⊢
      have HT := Lib.hid ht
      have HBB := Lib.hid hB
      have HD := Lib.hid (And.intro hA' (And.intro hab (And.intro hab2 (And.intro hrd (And.intro hcj hDj)))))
      obtain ⟨s, hs⟩ : ∃ s, s = d.pend[k].1 := ⟨_, rfl⟩
      obtain ⟨ys, hys⟩ : ∃ ys, ys = d.pend[k].2 := ⟨_, rfl⟩
      have d1 : wr.cell? (ad.add (k * 2)) = some (.int .i64 s) := by rw [hs]; exact d1o
      have hpl := H.out.pl _ (List.getElem_mem hkl)
      obtain ⟨n, hn⟩ : ∃ n, n = d.size := ⟨_, rfl⟩
      have d2 : wr.cell? ⟨(ad.add (k * 2)).block, (ad.add (k * 2)).off + 1, none⟩ = some (.slice Aj n cj) := by rw [hn, ← hpl.2]; exact d2o
      have hsn : layL d.size (fun i => kp.getD i false) (d.pend.take (k + 1)) 0 d.kept = if kp.getD k false then layA (layL d.size (fun i => kp.getD i false) (d.pend.take k) 0 d.kept) (s * n) ys else layL d.size (fun i => kp.getD i false) (d.pend.take k) 0 d.kept := by
        rw [List.take_succ_eq_append_getElem hkl, layL_snoc, hs, hn, hys, List.length_take, Nat.zero_add, Nat.min_eq_left (by omega)]
      have hsl : s < d.secs := by rw [hs]; exact hpl.1
      have hyl : ys.length = n := by rw [hys, hn]; exact hpl.2
      have hrd : Rd b8 wr wr.heap.size Aj ys := by rw [hys]; exact hrd
      obtain ⟨ks, hks⟩ : ∃ ks, ks = layL d.size (fun i => kp.getD i false) (d.pend.take k) 0 d.kept := ⟨_, rfl⟩
      have hksl : ks.length = d.kept.length := by rw [hks, layL_len d.size d.secs _ _ _ _ (fun p hp => H.out.pl p (List.mem_of_mem_take hp)) H.out.kl, H.out.kl]
      rw [← hks] at hsn
      have hb1 := Gw.alloc wr (.cells #[.int .i64 s, .slice Aj n cj] 89)
      have HT2 : Hid (DiskAt (wr.alloc (.cells #[.int .i64 s, .slice Aj n cj] 89)) g x (d.lay ks)) := by rw [hks]; exact ht.below hb1
      have HRD := Lib.hid (hrd.alloc (Nat.le_refl _) (.cells #[.int .i64 s, .slice Aj n cj] 89))
      have hk0 := Bk.new wr 89 #[.int .i64 s, .slice Aj n cj]
      have HREG := Lib.hid (fun Q a0 => dst_reg Q a0 _ g wr.heap.size s (s * n) n (x.kc - s * n) cj x.kb Aj (by simp) (hk0.cell 0) (hk0.cell 1) (Lib.hid (fun W hb => by
        have := dsector_c (HT2.out.below hb) s hsl
        rw [hn]; exact this)))
      clear ht hB hA hab hab2 hrd hcj hDj d1o d2o hks hb1 hk0 hs hys hpl
      have HAC := Lib.hid (HA.out _ (HBB.out.trans (Kept.alloc (Md g x) wr (.cells #[.int .i64 s, .slice Aj n cj] 89))) k)
      cases hkb : kp.getD k false with
      | true =>
        rw [hkb] at HAC
        rw [hkb, if_pos rfl] at hsn
        have HSN := Lib.hid (And.intro hsn (And.intro hyl (And.intro hksl (And.intro hsl hn))))
        clear hsn hyl hksl hsl hn hkb
        go_wp2_with fail
        refine Calls.mono HAC.out ?_
        rintro e w2 ⟨rfl, rfl⟩
        go_wp2_with fail
        refine HREG.out _ _ rfl rfl rfl ?_
        intro vals w3 hG h22 h24
        unfold IsV at h22 h24
        simp only [putD, Act.put, List.setIfInBounds_toArray, List.set_cons_zero, List.set_cons_succ, h22, h24]
        have HT3 := Lib.hid (HT2.out.below hG)
        have HR3 := Lib.hid ((HRD.out.below (hG.mono (by simp))).more (show wr.heap.size ≤ w3.heap.size by have := hG.size; simp at this; omega))
        have HB3 := Lib.hid (HBB.out.trans ((Kept.alloc (Md g x) wr _).trans (Kept.of_below hG _)))
        clear h22 h24 hG
        have hrm := HT3.out.room (s := s) HSN.out.2.2.2.1
        refine wp_lay one8.under (by kernel_rfl) b8_one rfl (.tmp 22) (.tmp 24) rfl 0 x.kb ks.length x.kc (s * n) n _ ks ys HSN.out.2.1 (by have := hrm.1; have e : (d.lay ks).size = n := HSN.out.2.2.2.2.symm; rw [e] at this; exact this) HT3.out.kept rfl Aj cj rfl HR3.out ?_
        intro w4 ho4 hg4
        have HO4 := Lib.hid (HT3.out.lay (layA ks (s * n) ys) (layA_len _ _ _ (by have := hrm.1; have e : (d.lay ks).size = n := HSN.out.2.2.2.2.symm; rw [e] at this; rw [HSN.out.2.1]; exact this)) ho4 hg4)
        have HK4 := Lib.hid (HB3.out.trans ((Kept.grown hg4).more (fun i e => by injection e with e; exact .inr (.inl e.symm))))
        clear ho4 hg4 hrm
        go_wp2_with fail
        go_roundw
        case rel => exact ⟨k + 1, by omega, by go_num, by rw [HSN.out.1]; exact HO4.out, HK4.out⟩
        case measure => (first | (simp [intOf]; done) | (simp [intOf]; omega))
      | false =>
        rw [hkb] at HAC
        rw [hkb, if_neg (by decide)] at hsn
        have HSN := Lib.hid hsn
        clear hsn hyl hksl hsl hn hkb
        go_wp2_with fail
        refine Calls.mono HAC.out ?_
        rintro e w2 ⟨rfl, rfl⟩
        go_wp2_with fail
        go_roundw
        case rel => exact ⟨k + 1, by omega, by go_num, by rw [HSN.out]; exact HT2.out, HBB.out.trans (Kept.alloc (Md g x) wr _)⟩
        case measure => (first | (simp [intOf]; done) | (simp [intOf]; omega))
    · obtain rfl : k = P := by omega
      rw [List.take_of_length_le (by rw [← HP.out]; omega)] at ht
      obtain ⟨_, _, c2', c3, _⟩ := ht.blk.eight
      have hfz := ht.blk.free 2
      obtain ⟨ks, hks⟩ : ∃ ks, ks = layL d.size (fun i => kp.getD i false) d.pend 0 d.kept := ⟨_, rfl⟩
      rw [← hks] at ht
      have hb := ht.blk.set 2 (.slice none 0 0)
      have hk := Kept.set wr g 2 (.slice none 0 0)
      have hc3 : (wr.setCell ⟨g, 2, none⟩ (.slice none 0 0)).cell? ⟨g, 3, none⟩ = some (.map (some x.mb)) := hb.cell 3
      have HM := Lib.hid (ht.map.kept hk ht.n2)
      have HS := Lib.hid (And.intro hb hk)
      have HT := Lib.hid ht
      have HBB := Lib.hid hB
      have HKS := Lib.hid hks
      clear ht hB hb hk hks
      go_wp2_with (refine wp_clear_fn rfl (.tmp 33) rfl rfl HM.out ?_; intro w3 h3 k3; have H3 := Lib.hid h3; have K3 := Lib.hid k3; clear h3 k3)
      go_end0
      have hk3 := HS.out.2.more (S' := fun i => i = g ∨ i = x.mb) (fun i e => .inl e)
      have hk4 := hk3.trans (K3.out.more (fun i e => by injection e with e; exact .inr e.symm))
      refine ⟨rfl, HKS.out ▸ HT.out.noPend (n0 := 0) (K3.out.bk HS.out.1 (fun e => by injection e with e; exact HT.out.n2 e)) H3.out hk4, HBB.out.trans (hk4.more (fun i e => by rcases e with e | e; exact .inl e; exact .inr (.inr (.inl e))))⟩
end
end Go.Proofs.Ytjcpbhjmmnpjnaa
/- disk.Disk's Sync, Cut, Arm. Conditions: lengths. -/
namespace Go.Proofs.Ytjcpbhjmmnpjnaa
set_option linter.unusedVariables false
set_option linter.unusedSimpArgs false
open Go.RowKit Go.Maps
set_option maxHeartbeats 400000
set_option maxRecDepth 100000
def DK.settled (d : DK) (fk : Nat → Bool) : DK := { d with kept := layL d.size fk d.pend 0 d.kept, pend := [] }
def DX.noP (x : DX) : DX := { x with pA := none, pc := 0 }
section
variable {w w' : World} {g : Nat} {x : DX} {d : DK}
/-- Only what is written about a disk has turned. -/
theorem DiskAt.flags (h : DiskAt w g x d) (hk : Kept (fun k => k = g) w w') (off : Bool) (armed writes : Nat) (ha : armed ≤ 9223372036854775807) (hw : writes ≤ 1000000)
    (hB : Bk w' g 78 #[.int .i64 d.size, .slice (some ⟨x.kb, 0, none⟩) d.kept.length x.kc, .slice x.pA d.pend.length x.pc, .map (some x.mb), .bool off, .int .i64 armed, .slice x.eA d.keep.length x.ec, .int .i64 writes]) : DiskAt w' g x { d with off := off, armed := armed, writes := writes } :=
  ⟨hB, hk.ow h.kept (fun k e => by obtain ⟨a, e1, rfl⟩ := own_slice e; injection e1 with e1; subst e1; exact h.n1), h.pend.kept hk (fun k e => by obtain ⟨a, e1, rfl⟩ := own_slice e; exact (h.n4 a e1).1) (fun k e => (h.n5 k e).1),
   h.map.kept hk h.n2, hk.rd h.keep (fun a e => (h.n5 _ (h.keepD a e)).1), h.keepD, fun k e => Nat.lt_of_lt_of_le (h.Dlt k e) hk.size, h.n1, h.n2, h.n3, h.n4, h.n5, h.sz, h.sc, h.kl, h.pl, ⟨h.lim.1, hw, ha, h.lim.2.2.2⟩⟩
/-- .. and what the next armed cut keeps. -/
theorem DiskAt.reKeep (h : DiskAt w g x d) (hk : Kept (fun k => k = g) w w') (off : Bool) (armed writes : Nat) (ha : armed ≤ 9223372036854775807) (hw : writes ≤ 1000000) (kp : List Bool) (eA : Option Addr) (ec : Nat) (D : Nat → Prop) (hkr : Rd boV w' w'.heap.size eA kp) (hkl : kp.length ≤ 100000 ∧ kp.length ≤ ec)
    (hD1 : ∀ k, x.D k → D k) (hD2 : ∀ a, eA = some a → D a.block) (hD3 : ∀ k, D k → x.D k ∨ ∃ a, eA = some a ∧ k = a.block) (hD4 : ∀ a, eA = some a → a.block < w'.heap.size ∧ ¬ Md g x a.block)
    (hB : Bk w' g 78 #[.int .i64 d.size, .slice (some ⟨x.kb, 0, none⟩) d.kept.length x.kc, .slice x.pA d.pend.length x.pc, .map (some x.mb), .bool off, .int .i64 armed, .slice eA kp.length ec, .int .i64 writes]) : DiskAt w' g { x with eA := eA, ec := ec, D := D } { d with off := off, armed := armed, writes := writes, keep := kp } := by
  have hn5 : ∀ k, D k → k ≠ g ∧ k ≠ x.kb ∧ k ≠ x.mb ∧ ∀ a, x.pA = some a → k ≠ a.block := fun k hk' => by
    rcases hD3 k hk' with e | ⟨a, e1, rfl⟩
    · exact h.n5 k e
    · have := (hD4 a e1).2
      exact ⟨fun e => this (.inl e), fun e => this (.inr (.inl e)), fun e => this (.inr (.inr (.inl e))), fun b e1 e2 => this (.inr (.inr (.inr ⟨b, e1, e2⟩)))⟩
  obtain ⟨ds, p1, p2, p3⟩ := h.pend.kept hk (fun k e => by obtain ⟨a, e1, rfl⟩ := own_slice e; exact (h.n4 a e1).1) (fun k e => (h.n5 k e).1)
  exact ⟨hB, hk.ow h.kept (fun k e => by obtain ⟨a, e1, rfl⟩ := own_slice e; injection e1 with e1; subst e1; exact h.n1), ⟨ds, p1, p2, fun q hq => ⟨(p3 q hq).1, (p3 q hq).2.1, fun a e => hD1 _ ((p3 q hq).2.2 a e)⟩⟩,
   h.map.kept hk h.n2, hkr, hD2, fun k e => by
     rcases hD3 k e with e | ⟨a, e1, rfl⟩
     · exact Nat.lt_of_lt_of_le (h.Dlt k e) hk.size
     · exact (hD4 a e1).1, h.n1, h.n2, h.n3, h.n4, hn5, h.sz, h.sc, h.kl, h.pl, ⟨h.lim.1, hw, ha, hkl⟩⟩
theorem dsync_off (h : DiskAt w g x d) (ho : d.off = true) : Calls Try.prog 38 #[.pointer (some ⟨g, 0, none⟩)] w fun e w' => e = .returned (.int .i64 7) ∧ w' = w := by
  have c4 := h.blk.eight.2.2.2.2.1
  rw [ho] at c4
  clear h ho
  go_enter Try.func38, Try.ntmps38
  go_wp2
  go_ret
  exact ⟨rfl, rfl⟩
theorem dsync_ok (h : DiskAt w g x d) (ho : d.off = false) : Calls Try.prog 38 #[.pointer (some ⟨g, 0, none⟩)] w fun e w' => e = .returned (.int .i64 0) ∧ DiskAt w' g x.noP (d.settled (fun _ => true)) ∧ Kept (Md g x) w w' := by
  have c4 := h.blk.eight.2.2.2.2.1
  rw [ho] at c4
  have HS := Lib.hid (dsettle_all h)
  clear h ho
  go_enter Try.func38, Try.ntmps38
  go_wp2_with fail
  refine Calls.mono HS.out ?_
  rintro e w1 ⟨rfl, h1, k1⟩
  have H1 := Lib.hid (And.intro h1 k1)
  clear h1 k1 c4
  go_wp2_with fail
  go_ret
  exact ⟨rfl, H1.out.1, H1.out.2⟩
/-- A disk whose power is cut: of the pending writes those of kp are kept. -/
def DK.cut (d : DK) (kp : List Bool) : DK := { d with kept := layL d.size (fun i => kp.getD i false) d.pend 0 d.kept, pend := [], off := true, armed := 0, keep := [] }
def DX.cut (x : DX) : DX := { x with pA := none, pc := 0, eA := none, ec := 0 }
theorem dcut_c (h : DiskAt w g x d) (kA : Option Addr) (kp : List Bool) (kc : Nat) (hkr : Rd boV w w.heap.size kA kp) (hkm : ∀ a, kA = some a → ¬ Md g x a.block) (hkl : kp.length ≤ 100000) :
    Calls Try.prog 58 #[.pointer (some ⟨g, 0, none⟩), .slice kA kp.length kc] w fun e w' => e = .returned (.tuple #[]) ∧ DiskAt w' g x.cut (d.cut kp) ∧ Kept (Md g x) w w' := by
  obtain ⟨n, hn⟩ : ∃ n, n = kp.length := ⟨_, rfl⟩
  rw [← hn] at hkl ⊢
  have hb := Gw.alloc w (.cells #[.slice kA n kc] 47)
  have hcm : ¬ Md g x w.heap.size := fun e => by have := h.lts _ (.inl e); omega
  have hS := dsettle_cut (h.below hb) w.heap.size kA kp n kc hn ((Bk.new w 47 #[.slice kA n kc]).cell 0) (by simp) hcm ((hkr.alloc (Nat.le_refl _) _).more (by simp)) hkm hkl
  have HS := Lib.hid hS
  clear hS hkr hkm hkl hn hb hcm h
  go_enter Try.func58, Try.ntmps58
  go_wp2_with fail
  refine Calls.mono HS.out ?_
  rintro e w1 ⟨rfl, h1, k1⟩
  obtain ⟨_, _, _, _, c4, c5, c6, _⟩ := h1.blk.eight
  have f4 := h1.blk.free 4
  have f5 := h1.blk.free 5
  have f6 := h1.blk.free 6
  have hb1 := h1.blk.set 4 (.bool true)
  have hb2 := hb1.set 5 (.int .i64 0)
  have hb3 := hb2.set 6 (.slice none 0 0)
  have g5 : (w1.setCell ⟨g, 4, none⟩ (.bool true)).cell? ⟨g, 5, none⟩ = some (.int .i64 d.armed) := hb1.cell 5
  have g6 : ((w1.setCell ⟨g, 4, none⟩ (.bool true)).setCell ⟨g, 5, none⟩ (.int .i64 0)).cell? ⟨g, 6, none⟩ = some (.slice x.eA d.keep.length x.ec) := hb2.cell 6
  have e5 := hb1.free 5
  have e6 := hb2.free 6
  have hk := ((Kept.set w1 g 4 (.bool true)).trans (Kept.set _ g 5 (.int .i64 0))).trans (Kept.set _ g 6 (.slice none 0 0))
  have H1 := Lib.hid (And.intro h1 (And.intro k1 (And.intro hk hb3)))
  clear h1 k1 hk hb1 hb2 hb3
  go_wp2_with fail
  go_end0
  refine ⟨rfl, ?_, (Kept.alloc (Md g x) w _).trans (H1.out.2.1.trans (H1.out.2.2.1.more (fun k e => .inl e)))⟩
  exact H1.out.1.reKeep H1.out.2.2.1 true 0 d.writes (by omega) H1.out.1.lim.2.1 [] none 0 x.D Rd.nil (by simp) (fun k e => e) (fun a e => by cases e) (fun k e => .inl e) (fun a e => by cases e) H1.out.2.2.2
theorem max_run (n m : Int) (h : m = max n 1) (W : World) (ty : TypeId) : (Builtin.max_ #[3, 3] 3 #[.int .i64 n, .int .i64 1]).run Try.prog W = .ok (.int .i64 m) W := by
  unfold Builtin.max_
  by_cases h2 : n ≤ 1
  · have h3 : m = 1 := by omega
    clear h
    subst h3
    by_cases h5 : n = 1
    · subst h5
      go_simp
      simp [Builtin.max2]
    · have h4 : n < 1 := by omega
      go_simp
      simp [Builtin.max2, h4]
  · have h3 : m = n := by omega
    clear h
    subst h3
    have h4 : ¬ m < 1 := by omega
    go_simp
    simp [Builtin.max2, h4]
/-- A disk whose power goes at the m-th write. -/
def DK.arm (d : DK) (m : Nat) (kp : List Bool) : DK := { d with armed := m, keep := kp }
theorem darm_c (h : DiskAt w g x d) (n : Int) (hn : n ≤ 9223372036854775807) (kA : Option Addr) (kp : List Bool) (kc : Nat) (hkr : Rd boV w w.heap.size kA kp) (hkm : ∀ a, kA = some a → ¬ Md g x a.block) (hkl : kp.length ≤ 100000) :
    Calls Try.prog 15 #[.pointer (some ⟨g, 0, none⟩), .int .i64 n, .slice kA kp.length kc] w fun e w' => e = .returned (.tuple #[]) ∧ ∃ x', DiskAt w' g x' (d.arm (max n 1).toNat kp) ∧ NextX g w x x' ∧ Kept (Md g x) w w' := by
  obtain ⟨m, hm⟩ : ∃ m : Nat, m = (max n 1).toNat := ⟨_, rfl⟩
  have hmi : (m : Int) = max n 1 := by omega
  rw [← hm]
  have hmax := fun (W : World) => max_run n (m : Int) hmi W 0
  have hm2 : m ≤ 9223372036854775807 := by omega
  obtain ⟨_, _, _, _, _, c5, _, _⟩ := h.blk.eight
  have f5 := h.blk.free 5
  have hk1 := Kept.set w g 5 (.int .i64 (m : Int))
  have h1 := h.flags hk1 d.off m d.writes hm2 h.lim.2.1 (h.blk.set 5 _)
  have hC := bclone_c kp kA kc _ (hk1.rd hkr (fun a e e2 => hkm a e (.inl e2))) (by omega)
  have HC := Lib.hid hC
  have H1 := Lib.hid (And.intro h (And.intro h1 (And.intro hk1 hkl)))
  unfold NewP at HC
  obtain ⟨kn, hkn⟩ : ∃ kn, kn = kp.length := ⟨_, rfl⟩
  rw [← hkn] at HC ⊢
  have HN := Lib.hid hkn
  clear h hk1 h1 hC hkr hkm hkl hm hmi hm2 hn hkn
  go_enter Try.func15, Try.ntmps15
  go_wp2_with fail
  refine Calls.mono HC.out ?_
  rintro e w2 ⟨A, c, rfl, hc, ho, hb⟩
  have h2 := H1.out.2.1.below hb
  obtain ⟨_, _, _, _, _, _, c6, _⟩ := h2.blk.eight
  have f6 := h2.blk.free 6
  have hb6 := h2.blk.set 6 (.slice A kn c)
  have hk6 := Kept.set w2 g 6 (.slice A kn c)
  have H2 := Lib.hid (And.intro h2 (And.intro hb6 (And.intro hk6 (And.intro hb (And.intro ho hc)))))
  clear h2 hb6 hk6 hb ho hc c5 f5 hmax
  go_wp2_with fail
  go_end0
  obtain ⟨h2, hb6, hk6, hb, ho, hc⟩ := H2.out
  obtain ⟨h0, h1, hk1, hkl⟩ := H1.out
  have hsz : w.heap.size ≤ w2.heap.size := Nat.le_trans hk1.size hb.size
  have hge : ∀ a, A = some a → w.heap.size ≤ a.block ∧ a.block < w2.heap.size := fun a e => by
    have := ow_addr ho a e
    have := hk1.size
    omega
  rw [HN.out] at ho hc
  refine ⟨rfl, { x with eA := A, ec := c, D := fun k => x.D k ∨ ∃ a, A = some a ∧ k = a.block }, h2.reKeep hk6 d.off m d.writes h2.lim.2.2.1 h2.lim.2.1 kp A c (fun k => x.D k ∨ ∃ a, A = some a ∧ k = a.block) (hk6.rd ho.rd (fun a e e2 => by have := hge a e; have := h0.blk.lt; omega)) ⟨hkl, hc⟩ (fun k e => .inl e) (fun a e => .inr ⟨a, e, rfl⟩) (fun k e => e)
    (fun a e => ⟨by have := hge a e; have := hk6.size; omega, fun e2 => by have := h0.lts _ (.inl e2); have := hge a e; omega⟩) (by rw [← HN.out]; exact hb6), fun k e => ?_, hk1.more (fun k e => .inl e) |>.trans ((Kept.of_below hb _).trans (hk6.more (fun k e => .inl e)))⟩
  rcases e with e | e | ⟨a, e1, rfl⟩
  · exact .inl (.inl e)
  · exact .inl (.inr e)
  · exact .inr (hge a e1).1
end
end Go.Proofs.Ytjcpbhjmmnpjnaa
/- As RegS, but the last of the row waits for all others, and behind it nothing is asked of the world. No conditions. -/
namespace Go.Proofs.Ytjcpbhjmmnpjnaa
set_option linter.unusedVariables false
set_option linter.unusedSimpArgs false
open Go.RowKit
section
variable {P : Program} {ops : Array Oper} {Q : Exit → Act → World → Prop} {a0 : Act} {w0 : World}
/-- Operations one behind the other; W holds of each world between, but for the last. -/
def SpineU (P : Program) (ops : Array Oper) (Q : Exit → Act → World → Prop) (W : World → Prop) : List Nat → Act → World → Prop
  | [], a, w => Q .normal a w
  | i :: is, a, w => ∃ o, ops[i]? = some o ∧ o.guard = none ∧ Oper.wp P o a w (fun a' w' => a'.defers = a.defers ∧ (is ≠ [] → W w') ∧ SpineU P ops Q W is a' w') NoQ
/-- One of the row, as straight code. -/
theorem spineU_list {i : Nat} {is : List Nat} {W : World → Prop} {d : Option Tmp} {op : Op} {type : TypeId} {a : Act} {w : World} (ho : (ops[i]?).map (fun o => (o.op, o.type)) = some (op, type)) (hdo : (ops[i]?).map (·.dst) = some d) (hg : (ops[i]?).bind (·.guard) = none)
    (h : wpList P #[{ dst := d, op, type, pos := "", after := #[], guard := none }] (SpineQ a.defers (fun w => is ≠ [] → W w) (SpineU P ops Q W is)) [{ dst := d, op, type, pos := "", after := #[], guard := none }] a w) : SpineU P ops Q W (i :: is) a w := by
  cases hi : ops[i]? with
  | none => rw [hi] at ho; cases ho
  | some o =>
    rw [hi] at ho hdo hg
    obtain ⟨dst, op', type', pos, after, guard⟩ := o
    simp only [Option.map_some, Option.some.injEq, Prod.mk.injEq] at ho hdo
    obtain ⟨rfl, rfl⟩ := ho
    subst hdo
    simp only [Option.bind_some] at hg
    subst hg
    refine ⟨_, hi, rfl, ?_⟩
    unfold wpList at h
    simp only [Region.wanted, if_true] at h
    have he : execOp a.eval { dst, op := op', type := type', pos, after, guard := none } = execOp a.eval { dst, op := op', type := type', pos := "", after := #[], guard := none } := by
      cases op' <;> rfl
    rcases h with h | ⟨_, h2⟩
    · unfold Oper.wp at h ⊢
      rw [he]
      generalize (execOp a.eval { dst, op := op', type := type', pos := "", after := #[], guard := none }).run P w = r at *
      cases r with
      | ok n w' =>
        cases n <;> simp only [Oper.upon, wpList] at h ⊢
        case value u => exact h
        case skip => exact h
        case defer u => exact h
        case enter f args =>
          refine Calls.mono h fun e w'' he => ?_
          cases e with
          | returned u => exact he
          | panicked c => exact he.elim
          | outgrown => obtain ⟨_, _, hf⟩ := he; exact hf.elim
        case row row args => exact h
      | halt x w' =>
        cases x <;> simp only [Oper.upon] at h ⊢
        case panic u => exact h.elim
    · obtain ⟨_, _, h3⟩ := h2
      exact h3.elim
def plainB (ops : Array Oper) (i : Nat) : Bool := match ops[i]? with
  | none => true
  | some o => match o.op with | .defer _ => false | .select .. => false | _ => true
/-- The checks of regB, of all but the last, which leaves nothing in a slot. -/
def regUB (ops : Array Oper) (m size : Nat) : Bool :=
  ops.size == m + 1 && ((List.range (m + 1)).all fun i => eldB ops i) && ((List.range m).all fun i => ownB ops m size i) && (dstOf ops m).isNone && (List.range (m + 1)).all fun i => plainB ops i
theorem region_spineU {id m : Nat} (sp fl : List Nat) (c : Nat → Value) (W : World → Prop) (hm : P.follows .mixedOrders = true) (hreg : regUB ops m a0.tmps.size = true) (hmsp : m ∈ sp) (hsp : spineB ops sp fl = true) (hne : sp ≠ []) (hlw : ∀ l ∈ sp.getLast?, ∀ i ∈ fl, waitsB ops l i = true) (hW : W w0.drew)
    (hF : ∀ i ∈ fl, ∀ w, W w → ∃ o, ops[i]? = some o ∧ (execOp (putL ops c fl a0).eval o).run P w = .ok (.value (c i)) w)
    (fin : SpineU P ops Q W sp (putL ops c fl a0) w0.drew) : (Code.region id ops true).wp P Q a0 w0 := by
  unfold spineB at hsp
  simp only [Bool.and_eq_true, List.all_eq_true, List.mem_range, decide_eq_true_eq, Bool.or_eq_true, List.contains_iff_mem, Bool.not_eq_true', Bool.not_eq_eq_eq_not, Bool.not_true] at hsp
  obtain ⟨⟨⟨⟨⟨⟨hch, hcov⟩, hfl⟩, hspl⟩, hnd⟩, hfo⟩, hso⟩ := hsp
  have hflsp : ∀ j ∈ fl, j ∉ sp := fun j hj h => by
    have := (hfl j hj).1.1.1
    rw [List.contains_eq_mem] at this
    simp [h] at this
  have getT : ∀ (l : Array Bool) (k : Nat) (b c : Bool), k < l.size → l.getD k b = l.getD k c := by
    intro l k b c hk
    rw [Array.getD_eq_getD_getElem?, Array.getD_eq_getD_getElem?, Array.getElem?_eq_getElem hk]; rfl
  unfold regUB at hreg
  simp only [Bool.and_eq_true, beq_iff_eq, List.all_eq_true, List.mem_range, Option.isNone_iff_eq_none] at hreg
  obtain ⟨⟨⟨⟨hsize, held⟩, hown⟩, hmn⟩, hplain⟩ := hreg
  have hflm : ∀ j ∈ fl, j ≠ m := fun j hj e => hflsp j hj (by rw [e]; exact hmsp)
  have hdst : ∀ i, i < ops.size → i ≠ m → ∃ d, dstOf ops i = some d ∧ d < a0.tmps.size ∧ ∀ j, j < ops.size → j ≠ i → dstOf ops j ≠ some d := by
    intro i hi him
    obtain ⟨d, hd, hdl, hdd⟩ := ownB_out (hown i (by omega))
    refine ⟨d, hd, hdl, fun j hj hne => ?_⟩
    by_cases e : j = m
    · rw [e, hmn]; exact fun h => by cases h
    · exact hdd j (by omega) hne
  have hA0 : ∀ j ∈ fl, valAt ops (putL ops c fl a0) j = c j := by
    intro j hj
    obtain ⟨d, hd, hdl, _⟩ := hdst j (hfl j hj).1.1.2 (hflm j hj)
    have hs := (hfl j hj).2
    unfold slotsB at hs
    rw [hd] at hs
    unfold valAt
    rw [hd]
    exact slotJ fl hdl hs
  have hout : ∀ t, (∀ j ∈ fl, dstOf ops j ≠ some t) → (putL ops c fl a0).tmps.getD t undef = a0.tmps.getD t undef := by
    intro t ht
    exact slotO fl (List.all_eq_true.2 fun k hk => by simpa using ht k hk)
  have main : ∀ (fuel : Nat) (listed : Array Bool) (a : Act) (w : World) (dn rest : List Nat) (A : Act), listed.size = ops.size →
      ((List.range ops.size).filter fun j => !listed.getD j true).length ≤ fuel →
      (rest ≠ [] → W w) → SpineU P ops Q W rest A w → sp = dn ++ rest → (∀ i ∈ dn, listed.getD i true = true) → (∀ i ∈ rest, listed.getD i true = false) → a.defers = A.defers → a.tmps.size = A.tmps.size → A.tmps.size = a0.tmps.size →
      (∀ j ∈ fl, valAt ops A j = c j) → (∀ t, (∀ j ∈ dn, dstOf ops j ≠ some t) → (∀ j ∈ fl, dstOf ops j ≠ some t) → A.tmps.getD t undef = a0.tmps.getD t undef) → (∀ j ∈ dn, ∀ k, waitsB ops j k = true → listed.getD k true = true) →
      (∀ t, a.tmps.getD t undef = A.tmps.getD t undef ∨ ∃ j ∈ fl, listed.getD j true = false ∧ dstOf ops j = some t) →
      wpAny P .any ops Q fuel listed a w := by
    intro fuel
    have allUp : ∀ (listed : Array Bool), listed.size = ops.size → Region.ready .any ops listed = [] → ∀ j, j < ops.size → listed.getD j true = true := by
      intro listed hsz hr j
      induction j using Nat.strongRecOn with
      | ind j ih =>
        intro hj
        cases hl : listed.getD j true with
        | true => rfl
        | false =>
          exfalso
          obtain ⟨o, ho, he⟩ := eldB_out (held j (by omega))
          have : j ∈ Region.ready .any ops listed := mem_ready.2 ⟨hl, o, ho, fun e hem hb => by
            have hlt := he e hem hb
            have := ih e.on hlt (by omega)
            rw [Array.getD_eq_getD_getElem?] at this ⊢
            rw [Array.getElem?_eq_getElem (by omega)] at this ⊢
            exact this⟩
          rw [hr] at this
          cases this
    have done : ∀ (listed : Array Bool) (a : Act) (w : World) (dn rest : List Nat) (A : Act), (∀ j, j < ops.size → listed.getD j true = true) → SpineU P ops Q W rest A w → sp = dn ++ rest → (∀ i ∈ rest, listed.getD i true = false) →
        a.defers = A.defers → a.tmps.size = A.tmps.size → (∀ t, a.tmps.getD t undef = A.tmps.getD t undef ∨ ∃ j ∈ fl, listed.getD j true = false ∧ dstOf ops j = some t) → Q .normal a w := by
      intro listed a w dn rest A hall hS hdn hrest hd hs hrel
      cases rest with
      | cons i is =>
        have h1 := hrest i (.head _)
        rw [hall i (hspl i (by rw [hdn]; simp))] at h1
        cases h1
      | nil =>
        have h1 := putL_whole (ops := ops) A [] a hs hd (fun t => by
          rcases hrel t with h | ⟨j, hj, h1, _⟩
          · exact .inl h
          · rw [hall j (hfl j hj).1.1.2] at h1; cases h1)
        unfold putL at h1
        rw [h1]
        exact hS
    induction fuel with
    | zero =>
      intro listed a w dn rest A hsz hcnt hw hS hdn hdl hrest hd hs hs0 hv ho hC hrel
      have hall : ∀ j, j < ops.size → listed.getD j true = true := by
        intro j hj
        cases hl : listed.getD j true with
        | true => rfl
        | false =>
          have : j ∈ (List.range ops.size).filter fun j => !listed.getD j true := List.mem_filter.2 ⟨List.mem_range.2 hj, by simp only [hl]; rfl⟩
          rw [List.eq_nil_of_length_eq_zero (Nat.le_zero.1 hcnt)] at this
          cases this
      refine ⟨?_, done listed a w dn rest A hall hS hdn hrest hd hs hrel⟩
      apply List.eq_nil_iff_forall_not_mem.2
      intro j hj
      obtain ⟨h1, o, ho, _⟩ := mem_ready.1 hj
      have hlt : j < ops.size := (Array.getElem?_eq_some_iff.1 ho).1
      rw [hall j hlt] at h1
      cases h1
    | succ fuel ih =>
      intro listed a w dn rest A hsz hcnt hw hS hdn hdl hrest hd hs hs0 hv ho hC hrel
      refine ⟨fun hr => done listed a w dn rest A (allUp listed hsz hr) hS hdn hrest hd hs hrel, fun i hi => ?_⟩
      obtain ⟨hui, o, hoi, hall⟩ := mem_ready.1 hi
      have hlt : i < ops.size := (Array.getElem?_eq_some_iff.1 hoi).1
      have hlz : i < listed.size := by omega
      have hwt : ∀ j, waitsB ops i j = true → listed.getD j true = true := by
        intro j hj
        obtain ⟨o', ho', e, he, hb, rfl⟩ := waits_some hj
        rw [hoi] at ho'
        injection ho' with ho'
        subst ho'
        have h1 := hall e he hb
        rcases Nat.lt_or_ge e.on listed.size with hl | hl
        · rw [getT _ _ true false hl]
          exact h1
        · rw [Array.getD_eq_getD_getElem?, Array.getElem?_eq_none hl] at h1; cases h1
      have hset : ∀ j b, (listed.setIfInBounds i true).getD j b = if j = i then true else listed.getD j b := by
        intro j b
        rw [Array.getD_eq_getD_getElem?, Array.getD_eq_getD_getElem?, Array.getElem?_setIfInBounds]
        by_cases e : i = j
        · subst e; simp [hlz]
        · rw [if_neg e, if_neg (fun h => e h.symm)]
      have hcnt' : ((List.range ops.size).filter fun j => !(listed.setIfInBounds i true).getD j true).length ≤ fuel := by
        have := filter_less (p := fun j => !listed.getD j true) (q := fun j => !(listed.setIfInBounds i true).getD j true) (i := i) (l := List.range ops.size) (fun x hx => by
          rw [hset] at hx
          by_cases e : x = i
          · rw [if_pos e] at hx; cases hx
          · rw [if_neg e] at hx; exact hx) (List.mem_range.2 hlt) (by rw [hui]; rfl) (by rw [hset, if_pos rfl]; rfl)
        omega
      have hops : operandsOf ops i = o.op.operands.toList.filterMap fun | .tmp t => some t | _ => none := by unfold operandsOf; simp only [hoi]; rfl
      have hndf : match o.op with | .defer _ => False | .select .. => False | _ => True := by
        have h2 := hplain i (by omega)
        unfold plainB at h2
        simp only [hoi] at h2
        revert h2
        cases o.op <;> simp
      have hcong : ∀ B : Act, (∀ t ∈ operandsOf ops i, B.tmps.getD t undef = a.tmps.getD t undef) → execOp B.eval o = execOp a.eval o := by
        intro B hB
        refine execOp_congr o (fun cs b e => by rw [e] at hndf; exact hndf) fun x hx => ?_
        cases x with
        | tmp t => exact hB t (by rw [hops]; exact List.mem_filterMap.2 ⟨.tmp t, by simpa using hx, rfl⟩)
        | _ => rfl
      by_cases him : i = m
      · have hf1 : i ∉ fl := fun h => hflm i h him
        have hdn0 : o.dst = none := by
          have h2 := hmn
          rw [← him] at h2
          unfold dstOf at h2
          rw [hoi] at h2
          exact h2
        have hput : ∀ (B : Act) (v : Value), B.put o.dst v = B := fun B v => by rw [hdn0]; rfl
        have hs1 : i ∈ sp := by
          rcases hcov i hlt with h | h
          · exact h
          · exact absurd h hf1
        have hhead : ∃ is, rest = i :: is := by
          have hmem : i ∈ dn ++ rest := by rw [← hdn]; exact hs1
          rcases List.mem_append.1 hmem with h | h
          · rw [hdl i h] at hui; cases hui
          · cases rest with
            | nil => cases h
            | cons x is =>
              by_cases e : i = x
              · exact ⟨is, by rw [e]⟩
              · exfalso
                have hmi : i ∈ is := by
                  rcases List.mem_cons.1 h with h | h
                  · exact absurd h e
                  · exact h
                obtain ⟨u, t, hut⟩ := List.append_of_mem hmi
                obtain ⟨pre, y, hy⟩ : ∃ pre y, x :: u = pre ++ [y] := ⟨(x :: u).dropLast, (x :: u).getLast (by simp), (List.dropLast_concat_getLast (by simp)).symm⟩
                have hsp2 : sp = (dn ++ pre) ++ y :: i :: t := by
                  rw [hdn, hut, ← List.cons_append, hy]
                  simp
                have hwy : waitsB ops i y = true := chain_at (d := dn ++ pre) (l := t) (by rw [← hsp2]; exact hch)
                have hyr : y ∈ x :: is := by
                  rw [hut, ← List.cons_append, hy]
                  simp
                have := hrest y hyr
                rw [hwt y hwy] at this
                cases this
        obtain ⟨is, rfl⟩ := hhead
        obtain ⟨o3, ho3, hg, hwp⟩ := hS
        rw [hoi] at ho3
        injection ho3 with ho3
        subst ho3
        have hAa : ∀ t ∈ operandsOf ops i, A.tmps.getD t undef = a.tmps.getD t undef := by
          intro t ht
          rcases hrel t with h3 | ⟨k, hk, h3, h4⟩
          · exact h3.symm
          · exfalso
            rcases hso i hs1 t ht k hk with h | h
            · exact absurd h4 (by simpa using h)
            · rw [hwt k h] at h3; cases h3
        unfold wpOp
        rw [hoi]
        simp only [Region.wanted, hg, if_true]
        left
        refine wp_two (hcong A hAa) hwp ?_
        rintro v w' ⟨hw', hS'⟩
        refine ih (listed.setIfInBounds i true) (a.put o.dst v) w' (dn ++ [i]) is (A.put o.dst v) (by simp [hsz]) hcnt' hw' hS' (by rw [hdn]; simp) (fun x hx => by
          rw [hset]
          split
          · rfl
          · rename_i hne
            rcases List.mem_append.1 hx with h | h
            · exact hdl x h
            · exact absurd (by simpa using h) hne) ?_ ?_ (by rw [put_size, put_size, hs]) (by rw [put_size, hs0]) ?_ ?_ ?_ ?_
        · intro x hx
          have hne : x ≠ i := by
            intro e
            subst e
            rw [hdn] at hnd
            have := (List.nodup_append.1 hnd).2.1
            exact (List.nodup_cons.1 this).1 hx
          rw [hset, if_neg hne]
          exact hrest x (.tail _ hx)
        · cases o.dst <;> exact hd
        · intro j hj
          rw [hput]; exact hv j hj
        · intro t ht ht2
          rw [hput]; exact ho t (fun j hj => ht j (List.mem_append_left _ hj)) ht2
        · intro j hj k hk
          rw [hset]
          split
          · rfl
          · rcases List.mem_append.1 hj with h | h
            · exact hC j h k hk
            · have : j = i := by simpa using h
              subst this
              exact hwt k hk
        · intro t
          rw [hput, hput]
          rcases hrel t with h3 | ⟨k, hk, h3, h4⟩
          · exact .inl h3
          · refine .inr ⟨k, hk, ?_, h4⟩
            rw [hset, if_neg (fun e2 => hf1 (by rw [← e2]; exact hk))]
            exact h3
      · obtain ⟨d, hdo, hdlt, hdd⟩ := hdst i hlt him
        have hdo' : o.dst = some d := by unfold dstOf at hdo; rw [hoi] at hdo; exact hdo
        have hval : ∀ (B : Act) (v : Value), B.tmps.size = a0.tmps.size → valAt ops (B.put o.dst v) i = v := by
          intro B v hB
          unfold valAt
          rw [hdo, hdo']
          exact put_same _ _ _ (by rw [hB]; exact hdlt)
        by_cases hf1 : i ∈ fl
        · -- one that floats
          have hg := (hfl i hf1).1.2
          rw [hoi, Option.bind_some, Option.isNone_iff_eq_none] at hg
          have hwr : rest ≠ [] := by
            intro e
            rw [e, List.append_nil] at hdn
            obtain ⟨l, hl⟩ : ∃ l, sp.getLast? = some l := ⟨sp.getLast hne, List.getLast?_eq_some_getLast hne⟩
            have hmem : l ∈ dn := by rw [← hdn]; exact List.mem_of_getLast? hl
            have := hC l hmem i (hlw l hl i hf1)
            rw [hui] at this
            cases this
          obtain ⟨o3, ho3, hrun⟩ := hF i hf1 w (hw hwr)
          rw [hoi] at ho3
          injection ho3 with ho3
          subst ho3
          have hA0a : ∀ t ∈ operandsOf ops i, (putL ops c fl a0).tmps.getD t undef = a.tmps.getD t undef := by
            intro t ht
            rcases hfo i hf1 t ht with h | h
            · rw [List.any_eq_true] at h
              obtain ⟨j, hj, h⟩ := h
              rw [Bool.and_eq_true, beq_iff_eq] at h
              have h1 := hA0 j hj
              have h2 := hv j hj
              unfold valAt at h1 h2
              rw [h.2] at h1 h2
              rcases hrel t with h3 | ⟨k, hk, h3, h4⟩
              · rw [h3]; exact h1.trans h2.symm
              · exfalso
                obtain ⟨dj, hdj, _, hdd2⟩ := hdst j (hfl j hj).1.1.2 (hflm j hj)
                rw [h.2] at hdj
                injection hdj with hdj
                subst hdj
                have hkj : k = j := by
                  apply Classical.byContradiction
                  intro hne
                  exact hdd2 k (hfl k hk).1.1.2 hne h4
                rw [hkj, hwt j h.1] at h3
                cases h3
            · have h' : ∀ j ∈ fl, dstOf ops j ≠ some t := fun j hj => by simpa using h.1 j hj
              rw [hout t h', ← ho t (fun j hj e => by
                rcases h.2 j (by rw [hdn]; exact List.mem_append_left _ hj) with h5 | h5
                · exact absurd e (by simpa using h5)
                · have := hC j hj i h5
                  rw [hui] at this
                  cases this) h']
              rcases hrel t with h3 | ⟨k, hk, _, h4⟩
              · exact h3.symm
              · exact absurd h4 (h' k hk)
          have hrun' : (execOp a.eval o).run P w = .ok (.value (c i)) w := by rw [← hcong _ hA0a]; exact hrun
          unfold wpOp
          rw [hoi]
          simp only [Region.wanted, hg, if_true]
          left
          unfold Oper.wp
          rw [hrun']
          simp only [Oper.upon]
          refine ih (listed.setIfInBounds i true) (a.put o.dst (c i)) w dn rest A (by simp [hsz]) hcnt' hw hS hdn (fun x hx => by rw [hset]; split; rfl; exact hdl x hx) ?_ ?_ (by rw [put_size, hs]) hs0 hv ho (fun j hj k hk => by rw [hset]; split; rfl; exact hC j hj k hk) ?_
          · intro x hx
            rw [hset, if_neg (fun e => hflsp i hf1 (by rw [hdn, ← e]; exact List.mem_append_right _ hx))]
            exact hrest x hx
          · rw [← hd]; cases o.dst <;> rfl
          · intro t
            by_cases e : dstOf ops i = some t
            · left
              have h2 := hv i hf1
              unfold valAt at h2
              rw [e] at h2
              rw [hdo] at e
              injection e with e
              subst e
              rw [hdo', put_same _ _ _ (by rw [hs, hs0]; exact hdlt)]
              exact h2.symm
            · rw [put_other _ _ _ _ (by rw [hdo', ← hdo]; exact e)]
              rcases hrel t with h3 | ⟨k, hk, h3, h4⟩
              · exact .inl h3
              · refine .inr ⟨k, hk, ?_, h4⟩
                rw [hset, if_neg (fun e2 => e (by rw [← e2]; exact h4))]
                exact h3
        · -- one of the row
          have hs1 : i ∈ sp := by
            rcases hcov i hlt with h | h
            · exact h
            · exact absurd h hf1
          have hhead : ∃ is, rest = i :: is := by
            have hmem : i ∈ dn ++ rest := by rw [← hdn]; exact hs1
            rcases List.mem_append.1 hmem with h | h
            · rw [hdl i h] at hui; cases hui
            · cases rest with
              | nil => cases h
              | cons x is =>
                by_cases e : i = x
                · exact ⟨is, by rw [e]⟩
                · exfalso
                  have hmi : i ∈ is := by
                    rcases List.mem_cons.1 h with h | h
                    · exact absurd h e
                    · exact h
                  obtain ⟨u, t, hut⟩ := List.append_of_mem hmi
                  obtain ⟨pre, y, hy⟩ : ∃ pre y, x :: u = pre ++ [y] := ⟨(x :: u).dropLast, (x :: u).getLast (by simp), (List.dropLast_concat_getLast (by simp)).symm⟩
                  have hsp2 : sp = (dn ++ pre) ++ y :: i :: t := by
                    rw [hdn, hut, ← List.cons_append, hy]
                    simp
                  have hwy : waitsB ops i y = true := chain_at (d := dn ++ pre) (l := t) (by rw [← hsp2]; exact hch)
                  have hyr : y ∈ x :: is := by
                    rw [hut, ← List.cons_append, hy]
                    simp
                  have := hrest y hyr
                  rw [hwt y hwy] at this
                  cases this
          obtain ⟨is, rfl⟩ := hhead
          obtain ⟨o3, ho3, hg, hwp⟩ := hS
          rw [hoi] at ho3
          injection ho3 with ho3
          subst ho3
          have hAa : ∀ t ∈ operandsOf ops i, A.tmps.getD t undef = a.tmps.getD t undef := by
            intro t ht
            rcases hrel t with h3 | ⟨k, hk, h3, h4⟩
            · exact h3.symm
            · exfalso
              rcases hso i hs1 t ht k hk with h | h
              · exact absurd h4 (by simpa using h)
              · rw [hwt k h] at h3; cases h3
          unfold wpOp
          rw [hoi]
          simp only [Region.wanted, hg, if_true]
          left
          refine wp_two (hcong A hAa) hwp ?_
          rintro v w' ⟨hw', hS'⟩
          refine ih (listed.setIfInBounds i true) (a.put o.dst v) w' (dn ++ [i]) is (A.put o.dst v) (by simp [hsz]) hcnt' hw' hS' (by rw [hdn]; simp) (fun x hx => by
            rw [hset]
            split
            · rfl
            · rename_i hne
              rcases List.mem_append.1 hx with h | h
              · exact hdl x h
              · exact absurd (by simpa using h) hne) ?_ ?_ (by rw [put_size, put_size, hs]) (by rw [put_size, hs0]) ?_ ?_ ?_ ?_
          · intro x hx
            have hne : x ≠ i := by
              intro e
              subst e
              rw [hdn] at hnd
              have := (List.nodup_append.1 hnd).2.1
              exact (List.nodup_cons.1 this).1 hx
            rw [hset, if_neg hne]
            exact hrest x (.tail _ hx)
          · cases o.dst <;> exact hd
          · intro j hj
            rw [← hv j hj]
            unfold valAt
            cases hjd : dstOf ops j with
            | none => rfl
            | some dj =>
              simp only
              refine put_other _ _ _ _ ?_
              rw [hdo']
              intro e
              have hji : j ≠ i := fun e2 => hf1 (by rw [← e2]; exact hj)
              exact hdd j (hfl j hj).1.1.2 hji (by rw [hjd]; exact e.symm)
          · intro t ht ht2
            rw [put_other _ _ _ _ (by rw [hdo', ← hdo]; exact ht i (by simp))]
            exact ho t (fun j hj => ht j (List.mem_append_left _ hj)) ht2
          · intro j hj k hk
            rw [hset]
            split
            · rfl
            · rcases List.mem_append.1 hj with h | h
              · exact hC j h k hk
              · have : j = i := by simpa using h
                subst this
                exact hwt k hk
          · intro t
            by_cases e : o.dst = some t
            · left
              rw [e]
              rw [hdo'] at e
              injection e with e
              subst e
              rw [put_same _ _ _ (by rw [hs, hs0]; exact hdlt), put_same _ _ _ (by rw [hs0]; exact hdlt)]
            · rw [put_other _ _ _ _ e, put_other _ _ _ _ e]
              rcases hrel t with h3 | ⟨k, hk, h3, h4⟩
              · exact .inl h3
              · refine .inr ⟨k, hk, ?_, h4⟩
                rw [hset, if_neg (fun e2 => hf1 (by rw [← e2]; exact hk))]
                exact h3
  refine wp_region_any hm ?_
  refine main ops.size (Array.replicate ops.size false) a0 w0.drew [] sp (putL ops c fl a0) (by simp) ?_ (fun _ => hW) fin rfl (fun x hx => by cases hx) ?_ (putL_defers c fl a0).symm (putL_size c fl a0).symm (putL_size c fl a0) hA0 (fun t _ h => hout t h) (fun j hj => by cases hj) ?_
  · exact Nat.le_trans (List.length_filter_le _ _) (by simp)
  · intro i hi
    rw [Array.getD_eq_getD_getElem?, Array.getElem?_eq_getElem (by simpa using hspl i hi)]
    simp
  · intro t
    by_cases e : ∃ j ∈ fl, dstOf ops j = some t
    · obtain ⟨j, hj, hjd⟩ := e
      refine .inr ⟨j, hj, ?_, hjd⟩
      rw [Array.getD_eq_getD_getElem?, Array.getElem?_eq_getElem (by simpa using (hfl j hj).1.1.2)]
      simp
    · left
      exact (slotO fl (List.all_eq_true.2 fun k hk => by
        have : dstOf ops k ≠ some t := fun h => e ⟨k, hk, h⟩
        simpa using this)).symm
/-- region_spine, by a list of places, slots and values. -/
theorem region_by_spineU {id : Nat} (m : Nat) (sp : List Nat) (fl : List (Nat × Tmp × Value)) (W : World → Prop) (hm : P.follows .mixedOrders = true) (hreg : regUB ops m a0.tmps.size = true) (hmsp : decide (m ∈ sp) = true) (hsp : spineB ops sp (fl.map (·.1)) = true) (hlw : (match sp.getLast? with | some l => (fl.map (·.1)).all fun i => waitsB ops l i | none => false) = true)
    (hd : (fl.map fun x => dstOf ops x.1) = fl.map fun x => some x.2.1) (hn : decide ((fl.map (·.1)).Nodup) = true) (hW : W w0.drew)
    (hF : ∀ x ∈ fl, ∀ w ρ, W w → (∀ t, ρ (.tmp t) = (putA fl a0).tmps.getD t undef) → (∀ c, ρ (.const c) = c) → ∃ o, ops[x.1]? = some o ∧ (execOp ρ o).run P w = .ok (.value x.2.2) w)
    (fin : SpineU P ops Q W sp (putA fl a0) w0.drew) : (Code.region id ops true).wp P Q a0 w0 := by
  have hall : ∀ x ∈ fl, valOf fl x.1 = x.2.2 ∧ dstOf ops x.1 = some x.2.1 := fun x hx => ⟨valOf_mem fl (of_decide_eq_true hn) x hx, by
    obtain ⟨k, hk, rfl⟩ := List.getElem_of_mem hx
    have := congrArg (fun l => l[k]?) hd
    simpa [hk] using this⟩
  have he := putL_putA (ops := ops) (valOf fl) fl a0 hall
  refine region_spineU sp (fl.map (·.1)) (valOf fl) W hm hreg (of_decide_eq_true hmsp) hsp (fun e => by rw [e] at hlw; cases hlw) (fun l hl i hi => by rw [show sp.getLast? = some l from hl] at hlw; exact List.all_eq_true.1 hlw i hi) hW ?_ (by rw [he]; exact fin)
  intro i hi w hw
  obtain ⟨x, hx, rfl⟩ := List.mem_map.1 hi
  rw [(hall x hx).1, he]
  exact hF x hx w _ hw (fun t => rfl) (fun c => rfl)
end
end Go.Proofs.Ytjcpbhjmmnpjnaa
/- What a disk is behind a write. Conditions: lengths. -/
namespace Go.Proofs.Ytjcpbhjmmnpjnaa
set_option linter.unusedVariables false
set_option linter.unusedSimpArgs false
open Go.RowKit Go.Maps
def DK.push (d : DK) (s : Nat) (bs : List (BitVec 8)) : DK := { d with pend := d.pend ++ [(s, bs)], writes := d.writes + 1 }
def DX.push (x : DX) (A5 : Option Addr) (c5 : Nat) (A' : Option Addr) : DX := { x with pA := A5, pc := c5, D := fun k => x.D k ∨ ∃ a, A' = some a ∧ k = a.block }
theorem DiskAt.push {w w4 w5 w6 w7 w8 w9 : World} {g : Nat} {x : DX} {d : DK} (h : DiskAt w4 g x d) (hw : w.heap.size ≤ w4.heap.size) (s : Nat) (bs : List (BitVec 8)) (A' A5 : Option Addr) (c' c5 : Nat) (hs : s < d.secs) (hbl : bs.length = d.size) (hbc : bs.length ≤ c')
    (hnw : ∀ a, A' = some a → w.heap.size ≤ a.block) (hA' : ∀ a, A' = some a → a.block < w4.heap.size ∧ ¬ (Md g x a.block ∨ x.D a.block)) (hrd : Rd b8 w4 w4.heap.size A' bs)
    (ds : List (Option Addr × Nat)) (h1 : ds.length = d.pend.length) (h3 : ∀ q ∈ d.pend.zip ds, Rd b8 w4 w4.heap.size q.2.1 q.1.2 ∧ q.1.2.length ≤ q.2.2 ∧ ∀ a, q.2.1 = some a → x.D a.block)
    (ho : w5.ownsRow 0 89 2 (.slice A5 (d.pend.length + 1) c5) (d.pend.length + 1) ((d.pend.zip ds).flatMap pcells ++ [.int .i64 s, .slice A' bs.length c']))
    (hg : w4.grownBy w5 (Value.slice x.pA d.pend.length x.pc).ownBlock) (hv : (Value.slice A5 (d.pend.length + 1) c5).ownBlock = (Value.slice x.pA d.pend.length x.pc).ownBlock ∨ (Value.slice A5 (d.pend.length + 1) c5).ownBlock = some w4.heap.size)
    (k56 : Kept (fun k => k = g) w5 w6) (k67 : Below w6.heap.size w6 w7) (k78 : Kept (fun k => some x.mb = some k) w7 w8) (k89 : Kept (fun k => k = g) w8 w9)
    (hB : Bk w9 g 78 #[.int .i64 d.size, .slice (some ⟨x.kb, 0, none⟩) d.kept.length x.kc, .slice A5 (d.pend.length + 1) c5, .map (some x.mb), .bool d.off, .int .i64 d.armed, .slice x.eA d.keep.length x.ec, .int .i64 ((d.writes + 1 : Nat) : Int)])
    (hM : MapFn w8 x.mb (d.pend.length + 1) (newF (d.pend ++ [(s, bs)]))) (hl1 : d.pend.length < 100000) (hl2 : d.writes < 1000000) :
    DiskAt w9 g (x.push A5 c5 A') (d.push s bs) ∧ NextX g w x (x.push A5 c5 A') ∧ Kept (Md g x) w4 w9 := by
  have k45 := (Kept.grown hg).more (S' := Md g x) (fun k e => by obtain ⟨a, e1, e2⟩ := own_slice e; exact .inr (.inr (.inr ⟨a, e1, e2⟩)))
  have k59 := (k56.more (S' := fun k => k = g ∨ k = x.mb) (fun k e => .inl e)).trans ((Kept.of_below k67 _).trans ((k78.more (fun k e => by injection e with e; exact .inr e.symm)).trans (k89.more (fun k e => .inl e))))
  have k49 := k45.trans (k59.more (S' := Md g x) (fun k e => by rcases e with e | e; exact .inl e; exact .inr (.inr (.inl e))))
  have hpn : ∀ a, A5 = some a → (∃ b, x.pA = some b ∧ a.block = b.block) ∨ a.block = w4.heap.size := fun a e => by
    have e1 : (Value.slice A5 (d.pend.length + 1) c5).ownBlock = some a.block := by rw [e]; rfl
    rcases hv with h | h
    · rw [e1] at h
      obtain ⟨b, e2, e3⟩ := own_slice h.symm
      exact .inl ⟨b, e2, e3⟩
    · rw [e1] at h
      injection h with h
      exact .inr h
  have hgl := h.blk.lt
  have hkl := h.klt
  have hml := h.map.lt
  have hD4 : ∀ k, (x.push A5 c5 A').D k → k < w4.heap.size := fun k e => by
    rcases e with e | ⟨a, e1, rfl⟩
    · exact h.Dlt k e
    · exact (hA' a e1).1
  have hDM : ∀ k, (x.push A5 c5 A').D k → ¬ Md g x k := fun k e => by
    rcases e with e | ⟨a, e1, rfl⟩
    · obtain ⟨m1, m2, m3, m4⟩ := h.n5 k e
      rintro (f | f | f | ⟨b, f1, f2⟩)
      · exact m1 f
      · exact m2 f
      · exact m3 f
      · exact m4 b f1 f2
    · exact fun f => (hA' a e1).2 (.inl f)
  have hn4 : ∀ a, A5 = some a → a.block ≠ g ∧ a.block ≠ x.kb ∧ a.block ≠ x.mb := fun a e => by
    rcases hpn a e with ⟨b, e1, e2⟩ | e2
    · rw [e2]; exact h.n4 b e1
    · omega
  have hP : PRow w9 (.slice A5 (d.push s bs).pend.length c5) (d.push s bs).pend (x.push A5 c5 A').D := by
    have hz : (d.pend ++ [(s, bs)]).zip (ds ++ [(A', c')]) = d.pend.zip ds ++ [((s, bs), (A', c'))] := by rw [List.zip_append h1.symm]; rfl
    refine ⟨ds ++ [(A', c')], by simp [DK.push, h1], ?_, ?_⟩
    · simp only [DK.push]
      rw [hz, List.flatMap_append, List.length_append]
      refine k59.row ?_ (fun k e => by
        obtain ⟨a, e1, rfl⟩ := own_slice e
        have := hn4 a e1
        rintro (f | f)
        · exact this.1 f
        · exact this.2.2 f)
      simpa [pcells] using ho
    · simp only [DK.push]
      rw [hz]
      intro q hq
      rcases List.mem_append.1 hq with hq | hq
      · obtain ⟨r1, r2, r3⟩ := h3 q hq
        exact ⟨k49.rd r1 (fun a e => hDM _ (.inl (r3 a e))), r2, fun a e => .inl (r3 a e)⟩
      · have : q = ((s, bs), (A', c')) := by simpa using hq
        subst this
        exact ⟨k49.rd hrd (fun a e => hDM _ (.inr ⟨a, e, rfl⟩)), hbc, fun a e => .inr ⟨a, e, rfl⟩⟩
  refine ⟨⟨?_, ?_, hP, ?_, ?_, fun a e => .inl (h.keepD a e), fun k e => Nat.lt_of_lt_of_le (hD4 k e) k49.size, h.n1, h.n2, h.n3, hn4, ?_, h.sz, h.sc, h.kl, ?_, ?_⟩, ?_, k49⟩
  · show Bk w9 g _ #[_, _, .slice A5 (d.pend ++ [(s, bs)]).length c5, _, _, _, _, _]
    rw [List.length_append]; exact hB
  · have hk2 : Kept (fun k => k ≠ x.kb) w4 w9 := ((Kept.grown hg).more (S' := fun k => k ≠ x.kb) (fun k e f => by
      subst f
      obtain ⟨a, e1, e2⟩ := own_slice e
      exact (h.n4 a e1).2.1 e2.symm)).trans (k59.more (fun k e f => by subst f; rcases e with e | e; exact h.n1 e; exact h.n3 e.symm))
    exact hk2.ow h.kept (fun k e => by obtain ⟨a, e1, rfl⟩ := own_slice e; injection e1 with e1; subst e1; exact fun f => f rfl)
  · have := hM.kept k89 h.n2
    show MapFn w9 x.mb (d.pend ++ [(s, bs)]).length (newF (d.pend ++ [(s, bs)]))
    rw [List.length_append]; exact this
  · exact k49.rd h.keep (fun a e => hDM _ (.inl (h.keepD a e)))
  · intro k e
    have hm := hDM k e
    refine ⟨fun f => hm (.inl f), fun f => hm (.inr (.inl f)), fun f => hm (.inr (.inr (.inl f))), fun a e1 f => ?_⟩
    rcases hpn a e1 with ⟨b, e2, e3⟩ | e2
    · exact hm (.inr (.inr (.inr ⟨b, e2, f.trans e3⟩)))
    · have := hD4 k e; omega
  · intro p hp
    rcases List.mem_append.1 hp with hp | hp
    · exact h.pl p hp
    · have : p = (s, bs) := by simpa using hp
      subst this
      exact ⟨hs, hbl⟩
  · refine ⟨?_, ?_, h.lim.2.2⟩
    · show (d.pend ++ [(s, bs)]).length ≤ 100000
      simp; omega
    · show d.writes + 1 ≤ 1000000; omega
  · intro k e
    rcases e with (e | e | e | ⟨a, e1, e2⟩) | e
    · exact .inl (.inl (.inl e))
    · exact .inl (.inl (.inr (.inl e)))
    · exact .inl (.inl (.inr (.inr (.inl e))))
    · rcases hpn a e1 with ⟨b, e3, e4⟩ | e3
      · exact .inl (.inl (.inr (.inr (.inr ⟨b, e3, e2.trans e4⟩))))
      · exact .inr (by omega)
    · rcases e with e | ⟨a, e1, rfl⟩
      · exact .inl (.inr e)
      · exact .inr (hnw a e1)
end Go.Proofs.Ytjcpbhjmmnpjnaa
/- append of elements of many cells to a row of one's own. Conditions: lengths. -/
namespace Go.Proofs.Ytjcpbhjmmnpjnaa
set_option linter.unusedVariables false
set_option linter.unusedSimpArgs false
open Go.RowKit
set_option maxRecDepth 100000
set_option maxHeartbeats 400000
/-- append of elements of many cells to a row of one's own. -/
theorem wp_appR {P : Program} {t e : TypeId} {z : Value} {bytes : Nat} {w : World} {ops : Array Oper} {rest : List Oper} {o : Oper} {a : Act} {Q : Exit → Act → World → Prop} (size : Nat) (i : TypeInfo) (ht : P.underlying t = some (.slice e)) (hi : P.info? e = some i) (hz : i.zero = some z)
    (hsize : i.size = size) (hby : i.bytes = bytes) (hzs : z.cells.size = size) (hsz : 0 < size) (hgd : o.guard = none) (s x : Operand)
    (ho : o.op = .call { callee := .builtin .append, args := #[s, x], argTypes := #[t, t] })
    (base : Nat) (v : Value) (n : Nat) (xs : List Value) (hs : a.eval s = v) (hown : w.ownsRow base e size v n xs)
    (ad : Addr) (m c : Nat) (news : List Value) (hx : a.eval x = .slice (some ad) m c) (hl : news.length = m * size) (hnews : ∀ j u, news[j]? = some u → w.cell? (ad.add j) = some u) (h1 : ∀ u ∈ news, u.oneCell' = true)
    (h63 : n + m ≤ maxLen) (hbytes : (n + m) * bytes ≤ 140737488355328) (hbase : base ≤ w.heap.size)
    (h : ∀ v' w', w'.ownsRow base e size v' (n + m) (xs ++ news) → Below base w w' → w.grownBy w' v.ownBlock → (v'.ownBlock = v.ownBlock ∨ v'.ownBlock = some w.heap.size) → wpList P ops Q rest (a.put o.dst v') w') : wpList P ops Q (o :: rest) a w := by
  refine wpList_plain hgd fun K hK => ?_
  obtain ⟨v', w', hrun, h2, h3, _, h5⟩ := run_append_own_at (P := P) w base t o.type e i z size bytes ht hi hz hsize hby hzs hsz v n xs hown ad m c news hl hnews h1 h63 hbytes hbase
  unfold Oper.wp execOp
  simp only [ho, resolve, invoke, builtin, Sem.run_bind, Sem.run_pure, Result.andThen_ok, List.map_toArray, List.map_cons, List.map_nil, hs, hx, hrun]
  exact hK _ _ (h v' w' h2 ((Below.refl _ _).grown h3 hbase (fun k hk => (World.ownsRow.lt hown k hk).1)) h3 h5)
end Go.Proofs.Ytjcpbhjmmnpjnaa
/- disk.Disk's Write. Conditions: lengths. -/
namespace Go.Proofs.Ytjcpbhjmmnpjnaa
set_option linter.unusedVariables false
set_option linter.unusedSimpArgs false
open Go.RowKit Go.Maps
set_option maxHeartbeats 400000
set_option maxRecDepth 100000
section
variable {w w' : World} {g : Nat} {x : DX} {d : DK}
theorem dwrite_off (h : DiskAt w g x d) (s : Int) (A : Option Addr) (n c : Nat) (ho : d.off = true) : Calls Try.prog 39 #[.pointer (some ⟨g, 0, none⟩), .int .i64 s, .slice A n c] w fun e w' => e = .returned (.int .i64 7) ∧ w' = w := by
  have c4 := h.blk.eight.2.2.2.2.1
  rw [ho] at c4
  clear h ho
  go_enter Try.func39, Try.ntmps39
  go_wp2
  go_ret
  exact ⟨rfl, rfl⟩
theorem dwrite_bad (h : DiskAt w g x d) (s : Int) (A : Option Addr) (n c : Nat) (hn : n ≤ maxLen) (ho : d.off = false) (hs : ((decide (0 ≤ s) && decide (s < (d.secs : Int))) && decide (n = d.size)) = false) : Calls Try.prog 39 #[.pointer (some ⟨g, 0, none⟩), .int .i64 s, .slice A n c] w fun e w' => e = .returned (.int .i64 1) ∧ Below w.heap.size w w' := by
  have c4 := h.blk.eight.2.2.2.2.1
  rw [ho] at c4
  have HH := Lib.hid (dhas_c h s)
  obtain ⟨r, hr⟩ : ∃ r, (decide (0 ≤ s) && decide (s < (d.secs : Int))) = r := ⟨_, rfl⟩
  rw [hr] at HH hs
  have HB0 := Lib.hid (fun W (hb : Below w.heap.size w W) => (h.below hb).blk.eight.1)
  obtain ⟨S, hS⟩ : ∃ S, S = d.size := ⟨_, rfl⟩
  rw [← hS] at HB0 hs
  cases r with
  | false =>
    clear h ho hr hs
    go_enter Try.func39, Try.ntmps39
    go_wp2_with fail
    refine Calls.mono HH.out ?_
    rintro e w1 ⟨rfl, b1⟩
    have HB := Lib.hid b1
    clear b1
    go_wp2_with fail
    go_ret
    exact ⟨rfl, HB.out⟩
  | true =>
    have hne : ¬ n = S := by simpa using hs
    have t1 : ((n : Int) != (S : Int)) = true := by simp; omega
    have t2 : ((n : Int) == (S : Int)) = false := by simp; omega
    clear h ho hr hs
    go_enter Try.func39, Try.ntmps39
    go_wp2_with fail
    refine Calls.mono HH.out ?_
    rintro e w1 ⟨rfl, b1⟩
    have HB := Lib.hid b1
    have c0 := HB0.out w1 b1
    clear b1
    go_wp2_with fail
    go_ret
    exact ⟨rfl, HB.out⟩
theorem dwrite_cut (h : DiskAt w g x d) (s : Nat) (A : Option Addr) (n c : Nat) (ho : d.off = false) (hs : s < d.secs) (hn : n = d.size) (ha : d.armed = 1) : Calls Try.prog 39 #[.pointer (some ⟨g, 0, none⟩), .int .i64 s, .slice A n c] w fun e w' => e = .returned (.int .i64 7) ∧ DiskAt w' g x.cut (d.cut d.keep) ∧ Kept (Md g x) w w' := by
  subst hn
  have HH := Lib.hid (dhas_c h s)
  rw [show (decide ((0 : Int) ≤ (s : Int)) && decide ((s : Int) < (d.secs : Int))) = true from by simp; omega] at HH
  have c4 := h.blk.eight.2.2.2.2.1
  rw [ho] at c4
  have HB0 := Lib.hid (fun W (hb : Below w.heap.size w W) => (h.below hb).blk.eight)
  rw [ha] at HB0
  have HC := Lib.hid (fun W (hb : Below w.heap.size w W) => dcut_c (h.below hb) x.eA d.keep x.ec (h.below hb).keep (fun a e f => by
    have := h.n5 _ (h.keepD a e)
    rcases f with f | f | f | ⟨b, f1, f2⟩
    · exact this.1 f
    · exact this.2.1 f
    · exact this.2.2.1 f
    · exact this.2.2.2 b f1 f2) h.lim.2.2.2.1)
  obtain ⟨S, hS⟩ : ∃ S, S = d.size := ⟨_, rfl⟩
  rw [← hS] at HB0 ⊢
  obtain ⟨m, hm⟩ : ∃ m, m = d.keep.length := ⟨_, rfl⟩
  rw [← hm] at HB0 HC
  clear h ho hs ha hS hm
  go_enter Try.func39, Try.ntmps39
  go_wp2_with fail
  refine Calls.mono HH.out ?_
  rintro e w1 ⟨rfl, b1⟩
  have HB := Lib.hid b1
  obtain ⟨c0, _, _, _, _, c5, c6, _⟩ := HB0.out w1 b1
  clear b1
  go_wp2_with fail
  refine Calls.mono (HC.out w1 HB.out) ?_
  rintro e w2 ⟨rfl, h2, k2⟩
  have H2 := Lib.hid (And.intro h2 k2)
  clear h2 k2 c0 c5 c6
  go_wp2_with fail
  go_ret
  exact ⟨rfl, H2.out.1, (Kept.of_below HB.out _).trans H2.out.2⟩
end
end Go.Proofs.Ytjcpbhjmmnpjnaa
