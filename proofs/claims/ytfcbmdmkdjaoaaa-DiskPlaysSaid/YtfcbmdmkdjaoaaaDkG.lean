/- Bytes laid into the middle of a row; what settling pending writes leaves. Conditions: lengths. -/
import Derived.Test.YtfcbmdmkdjaoaaaDkF
namespace Go.Proofs.Ytfcbmdmkdjaoaaa
set_option linter.unusedVariables false
set_option linter.unusedSimpArgs false
open Go.RowKit Go.Maps
theorem addr_at (q k : Nat) : ((⟨q, 0, none⟩ : Addr).add k) = ⟨q, k, none⟩ := by unfold Addr.add; split <;> simp_all
def layA {α : Type} (ks : List α) (o : Nat) (ys : List α) : List α := ks.take o ++ (ys ++ ks.drop (o + ys.length))
theorem layA_len {α : Type} (ks : List α) (o : Nat) (ys : List α) (h : o + ys.length ≤ ks.length) : (layA ks o ys).length = ks.length := by unfold layA; simp; omega
section
variable {P : Program} {α : Type} {f : α → Value} {t e : TypeId} {w : World} {ops : Array Oper} {rest : List Oper} {o : Oper} {a : Act} {Q : Exit → Act → World → Prop}
/-- 'copy(l[to:][:n], s)' into a row of the call's own. -/
theorem wp_lay (hu : P.underlying t = some (.slice e)) (hsz : (P.info? e).map (·.size) = some 1) (hf : ∀ x, (f x).oneCell' = true) (hgd : o.guard = none) (d s : Operand)
    (ho : o.op = .call { callee := .builtin .copy, args := #[d, s], argTypes := #[t, t] })
    (base q N c to n dc : Nat) (xs ys : List α) (hn : ys.length = n) (hto : to + n ≤ xs.length) (hown : Ow f e w base (.slice (some ⟨q, 0, none⟩) N c) xs)
    (hd : a.eval d = .slice (some ⟨q, to, none⟩) n dc) (A : Option Addr) (sc : Nat) (hs : a.eval s = .slice A n sc) (hr : Rd f w w.heap.size A ys)
    (h : ∀ w', Ow f e w' base (.slice (some ⟨q, 0, none⟩) N c) (layA xs to ys) → w.grownBy w' (some q) → wpList P ops Q rest (a.put o.dst (goInt n)) w') : wpList P ops Q (o :: rest) a w := by
  rcases Nat.eq_zero_or_pos n with h0 | hp
  · subst h0
    have hy : ys = [] := List.eq_nil_of_length_eq_zero hn
    subst hy
    refine wpList_copy_nothing hgd d s t t ho e hu hsz _ _ 0 dc 0 sc hd hs (by simp) (h w ?_ ⟨rfl, rfl, rfl, Nat.le_refl _, fun _ _ _ => rfl⟩)
    unfold layA
    simpa using hown
  · obtain ⟨hl, h2⟩ := hown
    rcases h2 with ⟨e1, _⟩ | ⟨g', cap', cur, e1, hg, hh, hnc, hcm, hcs, htk⟩
    · cases e1
    · injection e1 with e1 e2 e3
      injection e1 with e1
      injection e1 with e1
      subst e1
      subst e3
      obtain ⟨ad, rfl, hab, hc⟩ := hr.addr (by omega)
      have hcs' : cur.size = c := by omega
      rw [Nat.mul_one] at htk
      obtain ⟨R, hR⟩ : ∃ R, cur.toList = xs.map f ++ R := ⟨cur.toList.drop xs.length, by rw [← htk, List.take_append_drop]⟩
      have hlen : (ys.map f).length = n := by simp [hn]
      have hsrc : ∀ j v, (ys.map f)[j]? = some v → w.cell? (ad.add j) = some v := by
        intro j v hv
        have hj : j < n := by
          have := (List.getElem?_eq_some_iff.1 hv).1
          omega
        rw [hc j (by omega)]
        rw [List.getElem?_map, List.getElem?_eq_getElem (by omega)] at hv
        simpa using hv
      refine wpList_copy_own hgd d s t t ho e hu hsz q to n dc ad n sc hd hs cur e hh (ys.map f) (by rw [hlen]; simp) hsrc (by rw [hlen]; omega) (by intro u hu'; rw [List.mem_map] at hu'; obtain ⟨x, _, rfl⟩ := hu'; exact hf x) ?_
      rw [hlen]
      have hnew : cur.toList.take to ++ ((ys.map f) ++ cur.toList.drop (to + n)) = (layA xs to ys).map f ++ R := by
        rw [hR, List.take_append_of_le_length (by simp; omega), List.drop_append_of_le_length (by simp; omega)]
        unfold layA
        simp [List.map_take, List.map_drop, hn]
      rw [hnew]
      have hml := layA_len xs to ys (by omega)
      refine h _ ⟨by simp, .inr ⟨q, c, ((layA xs to ys).map f ++ R).toArray, by rw [hml, e2], hg, setRow_heap w q cur _ e _ hh, by rw [hml]; exact hnc, hcm, ?_, ?_⟩⟩ ⟨rfl, rfl, rfl, by simp [World.setRow], fun k _ hne => setRow_other w q k _ (fun e => hne (by rw [e]))⟩
      · have hs2 : cur.toList.length = (xs.map f ++ R).length := by rw [hR]
        simp [hml] at hs2 ⊢
        omega
      · rw [Nat.mul_one, hml]
        simp [hml]
end
/-- The kept bytes behind some of the pending writes. -/
def layL (size : Nat) (fk : Nat → Bool) : List PW → Nat → List (BitVec 8) → List (BitVec 8)
  | [], _, ks => ks
  | p :: l, i, ks => layL size fk l (i + 1) (if fk i then layA ks (p.1 * size) p.2 else ks)
theorem layL_snoc (size : Nat) (fk : Nat → Bool) (p : PW) : ∀ (L : List PW) (i : Nat) (ks : List (BitVec 8)), layL size fk (L ++ [p]) i ks = if fk (i + L.length) then layA (layL size fk L i ks) (p.1 * size) p.2 else layL size fk L i ks
  | [], i, ks => by simp [layL]
  | q :: l, i, ks => by
    rw [List.cons_append, layL, layL_snoc size fk p l (i + 1), layL, List.length_cons, show i + 1 + l.length = i + (l.length + 1) by omega]
theorem layL_len (size secs : Nat) (fk : Nat → Bool) : ∀ (L : List PW) (i : Nat) (ks : List (BitVec 8)), (∀ p ∈ L, p.1 < secs ∧ p.2.length = size) → ks.length = secs * size → (layL size fk L i ks).length = secs * size
  | [], _, _, _, h => h
  | p :: l, i, ks, hp, h => by
    rw [layL]
    refine layL_len size secs fk l (i + 1) _ (fun q hq => hp q (List.mem_cons_of_mem _ hq)) ?_
    split
    · rw [layA_len, h]
      have := hp p (List.mem_cons_self)
      have h1 := Nat.mul_le_mul_right size this.1
      rw [Nat.succ_mul] at h1
      rw [this.2, h]; omega
    · exact h
def DK.lay (d : DK) (ks : List (BitVec 8)) : DK := { d with kept := ks }
section
variable {w w' : World} {g : Nat} {x : DX} {d : DK}
theorem DiskAt.lay (h : DiskAt w g x d) (ks : List (BitVec 8)) (hl : ks.length = d.kept.length) (ho : Ow b8 5 w' 0 (.slice (some ⟨x.kb, 0, none⟩) d.kept.length x.kc) ks) (hg : w.grownBy w' (some x.kb)) : DiskAt w' g x (d.lay ks) := by
  have hk := Kept.grown hg
  refine ⟨?_, by show Ow _ _ _ _ (.slice _ ks.length _) ks; rw [hl]; exact ho, h.pend.kept hk (fun k e => by obtain ⟨a, e1, rfl⟩ := own_slice e; intro e2; injection e2 with e2; exact (h.n4 a e1).2.1 e2.symm) (fun k e e2 => by injection e2 with e2; exact (h.n5 k e).2.1 e2.symm),
   h.map.kept hk (fun e => by injection e with e; exact h.n3 e.symm), hk.rd h.keep (fun a e e2 => by injection e2 with e2; exact (h.n5 _ (h.keepD a e)).2.1 e2.symm), h.keepD, fun k e => Nat.lt_of_lt_of_le (h.Dlt k e) hk.size, h.n1, h.n2, h.n3, h.n4, h.n5, h.sz, h.sc, by show ks.length = _; rw [hl]; exact h.kl, h.pl, h.lim⟩
  have := hk.bk h.blk (fun e => by injection e with e; exact h.n1 e)
  show Bk w' g _ #[.int .i64 d.size, .slice (some ⟨x.kb, 0, none⟩) ks.length x.kc, _, _, _, _, _, _]
  rw [hl]; exact this
end
end Go.Proofs.Ytfcbmdmkdjaoaaa
