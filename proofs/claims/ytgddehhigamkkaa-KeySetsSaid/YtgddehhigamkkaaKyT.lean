/- KeySets: how its steps are read; what a step makes of a list of keys. No conditions. -/
import Derived.Test.YtgddehhigamkkaaKyS
namespace Go.Proofs.Ytgddehhigamkkaa
set_option linter.unusedVariables false
set_option linter.unusedSimpArgs false
open Go.RowKit Go.Maps Go.ChangeShapes Go.WideShapes
set_option maxHeartbeats 2000000
set_option maxRecDepth 100000
theorem KRd.bel {W W' : World} {B : Nat} {A : Option Addr} {ks : List (Int × Int)} (h : KRd W B A ks) (hb : Below B W W') : KRd W' B A ks := fun k hk => by
  obtain ⟨ad, e, hab, c1, c2⟩ := h k hk
  exact ⟨ad, e, hab, (hb.cell (by rw [add_block]; exact hab)).trans c1, (hb.cell (p := ⟨(ad.add (k * 2)).block, (ad.add (k * 2)).off + 1, none⟩) (by show (ad.add (k * 2)).block < _; rw [add_block]; exact hab)).trans c2⟩
theorem KRd.up {W : World} {B B' : Nat} {A : Option Addr} {ks : List (Int × Int)} (h : KRd W B A ks) (hb : B ≤ B') : KRd W B' A ks := fun k hk => by
  obtain ⟨ad, e, hab, c⟩ := h k hk
  exact ⟨ad, e, Nat.lt_of_lt_of_le hab hb, c⟩
theorem KRd.lt {W : World} {B : Nat} {A : Option Addr} {ks : List (Int × Int)} (h : KRd W B A ks) : ∀ ad, A = some ad → ks ≠ [] → ad.block < B := fun ad e hne => by
  obtain ⟨ad2, e2, hab, _⟩ := h 0 (by cases ks with | nil => exact absurd rfl hne | cons _ _ => simp)
  rw [e] at e2
  injection e2 with e2
  subst e2
  exact hab
section
variable {H : Type} {enc : TypeId × Value → H} {P : Program} {w : World} {base : Nat} {spare : Nat → Bool} {held : Bool}
theorem cell_rows {t e : TypeId} {fs : Array Field} {K n : Nat} {u : Value} {y : DataW H × List MemPlace} (ht : P.underlying t = some (.slice e)) (he : P.underlying e = some (.struct fs)) (hone : Go.Deep.oneCellFields P fs = true) (hC : P.cellsOf e = K) (hK : fs.size = K)
    (h : DataW.trod enc P w base spare held n t [u] = some y) :
    ∃ (A : Option Addr) (n c : Nat), u = .slice A n c ∧ n ≤ c ∧ c ≤ maxLen ∧ ∀ i, i < n → ∃ ad m, A = some ad ∧ ∀ j f, fs[j]? = some f → ∃ u y, w.cell? (ad.add (i * K + j)) = some u ∧ DataW.trod enc P w base spare held m f.type [u] = some y := by
  rcases Go.Deep.open_slice ht h with ⟨hcs, _⟩ | ⟨a, len', cap', m, n', D, Pl, hcs, hb, hl, hm, hmm, hx, hrow⟩
  · have hu : u = .slice none 0 0 := by simpa using hcs
    exact ⟨none, 0, 0, hu, Nat.le_refl _, by simp [maxLen], fun i hi => absurd hi (by omega)⟩
  · have hu : u = .slice (some a) len' cap' := by simpa using hcs
    refine ⟨some a, len', cap', hu, hl, hm, fun i hi => ?_⟩
    obtain ⟨cs', h1, h2⟩ := hrow i (by rw [hmm]; split <;> omega)
    obtain ⟨_, hlen, hcell⟩ := World.cells?_some h1
    obtain ⟨xs, n2, _, _, hl2, hlen2, hfs⟩ := DataW.trod_struct he h2
    refine ⟨a, n2, rfl, fun j f hj => ?_⟩
    obtain ⟨ho, h1c⟩ := Go.Deep.hone_of hone j f hj
    have hjk : j < fs.size := (Array.getElem?_eq_some_iff.1 hj).1
    have hjl : j < cs'.length := by omega
    have hfj := hfs j f hj
    have e1 : (cs'.drop f.offset).take (P.cellsOf f.type) = [cs'[j]] := by
      rw [ho, h1c, List.drop_eq_getElem_cons hjl]
      rfl
    rw [e1, List.getElem?_eq_getElem (by omega)] at hfj
    refine ⟨cs'[j], _, ?_, hfj⟩
    have := hcell j (by omega)
    rw [List.getElem?_eq_getElem hjl, add_add', hC] at this
    exact this
end
/-- A cell that is a slice of keys. -/
theorem cell_keys {H : Type} {enc : TypeId × Value → H} {w : World} {base : Nat} {spare : Nat → Bool} {held : Bool} {n : Nat} {u : Value} {y : DataW H × List MemPlace} (h : DataW.trod enc Try.prog w base spare held n 39 [u] = some y) :
    ∃ (A : Option Addr) (l : List (Int × Int)) (c : Nat), u = .slice A l.length c ∧ l.length ≤ c ∧ c ≤ maxLen ∧ KRd w w.heap.size A l ∧ ∀ x ∈ l, kW x := by
  have he := Try.underlying23
  obtain ⟨A, n, c, rfl, hn, hm, hrow⟩ := cell_rows (K := 2) Try.underlying39 he (by kernel_rfl) (by kernel_rfl) rfl h
  obtain ⟨l, hl, hp⟩ := choose_lst (α := Int × Int) (p := fun k x => (∃ ad, A = some ad ∧ ad.block < w.heap.size ∧ w.cell? (ad.add (k * 2)) = some (.int .i64 x.1) ∧ w.cell? ⟨(ad.add (k * 2)).block, (ad.add (k * 2)).off + 1, none⟩ = some (.int .i64 x.2)) ∧ kW x) n (fun k hk => by
    obtain ⟨ad, m, e, hf⟩ := hrow k hk
    obtain ⟨u0, y0, c0, t0⟩ := hf 0 _ rfl
    obtain ⟨u1, y1, c1, t1⟩ := hf 1 _ rfl
    obtain ⟨a0, rfl, w0⟩ := cell_int (k := .i64) (by kernel_rfl) t0
    obtain ⟨a1, rfl, w1⟩ := cell_int (k := .i64) (by kernel_rfl) t1
    have hb := cell_lt c0
    rw [add_block] at hb
    exact ⟨⟨a0, a1⟩, ⟨ad, e, hb, c0, (congrArg w.cell? (add_far ad (k * 2) 0)).symm.trans c1⟩, ⟨w0, w1⟩⟩)
  subst hl
  refine ⟨A, l, c, rfl, hn, hm, fun k hk => (hp k hk).1, fun x hx => ?_⟩
  obtain ⟨k, hk, rfl⟩ := List.mem_iff_getElem.1 hx
  exact (hp k hk).2
structure Stp where
  op : Int
  la : Option Addr
  ll : List (Int × Int)
  lc : Nat
structure StpAt (W : World) (B : Nat) (ad : Addr) (k : Nat) (x : Stp) : Prop where
  blk : ad.block < B
  op : W.cell? (ad.add (k * 2)) = some (.int .i64 x.op)
  l : W.cell? ⟨(ad.add (k * 2)).block, (ad.add (k * 2)).off + 1, none⟩ = some (.slice x.la x.ll.length x.lc)
  lcc : x.ll.length ≤ x.lc
  lr : KRd W B x.la x.ll
  lw : ∀ p ∈ x.ll, kW p
def Sts (W : World) (B : Nat) (A : Option Addr) (l : List Stp) : Prop := ∀ k (h : k < l.length), ∃ ad, A = some ad ∧ StpAt W B ad k l[k]
theorem Sts.bel {W W' : World} {B : Nat} {A : Option Addr} {l : List Stp} (h : Sts W B A l) (hb : Below B W W') : Sts W' B A l := fun k hk => by
  obtain ⟨ad, e, m⟩ := h k hk
  have hbk : (ad.add (k * 2)).block < B := by rw [add_block]; exact m.blk
  exact ⟨ad, e, m.blk, (hb.cell hbk).trans m.op, (hb.cell (p := ⟨(ad.add (k * 2)).block, (ad.add (k * 2)).off + 1, none⟩) hbk).trans m.l, m.lcc, m.lr.bel hb, m.lw⟩
theorem open_rows_Step {H : Type} {enc : TypeId × Value → H} {W : World} {base : Nat} {sp : Nat → Bool} {hd : Bool} {r : Reach} {b0 : Nat} {v : Value} {d : DataW H} {p : List MemPlace}
    (hv : Value.okWide Try.prog W r b0 34 v) (h : DataW.Trod enc Try.prog W base sp hd 34 v d p) :
    ∃ (A : Option Addr) (l : List Stp) (c : Nat), v = .slice A l.length c ∧ l.length ≤ c ∧ c ≤ maxLen ∧ Sts W W.heap.size A l := by
  have he := Try.underlying41
  obtain ⟨A, n, c, rfl, hn, hm, hrow⟩ := rows_at (K := 2) Try.underlying34 he (by kernel_rfl) (by kernel_rfl) rfl hv h
  obtain ⟨l, hl, hp⟩ := choose_lst (α := Stp) (p := fun k x => ∃ ad, A = some ad ∧ StpAt W W.heap.size ad k x) n (fun k hk => by
    obtain ⟨ad, m, e, hf⟩ := hrow k hk
    obtain ⟨u0, y0, c0, t0⟩ := hf 0 _ rfl
    obtain ⟨u1, y1, c1, t1⟩ := hf 1 _ rfl
    obtain ⟨a0, rfl, w0⟩ := cell_int (k := .i64) (by kernel_rfl) t0
    obtain ⟨A1, l1, n1, rfl, h1, _, r1, z1⟩ := cell_keys t1
    have hb := cell_lt c0
    rw [add_block] at hb
    exact ⟨⟨a0, A1, l1, n1⟩, ad, e, ⟨hb, c0, (congrArg W.cell? (add_far ad (k * 2) 0)).symm.trans c1, h1, r1, z1⟩⟩)
  subst hl
  exact ⟨A, l, c, rfl, hn, hm, hp⟩
/-- One key: added, or taken out. -/
def mK (op : Int) (m : List (Int × Int)) (p : Int × Int) : List (Int × Int) := if op = 1 then addK m p else offK m p
def mL (op : Int) (m ks : List (Int × Int)) : List (Int × Int) := if op = 1 then addL m ks else offL m ks
def nL (op : Int) (m ks : List (Int × Int)) : Int := if op = 1 then ((addL m ks).length : Int) - (m.length : Int) else (m.length : Int) - ((offL m ks).length : Int)
theorem mL_nil (op : Int) (m : List (Int × Int)) : mL op m [] = m := by unfold mL addL offL; split <;> rfl
theorem nL_nil (op : Int) (m : List (Int × Int)) : nL op m [] = 0 := by
  have := mL_nil op m
  unfold mL at this
  unfold nL
  split at this
  · rename_i h; rw [if_pos h, this]; omega
  · rename_i h; rw [if_neg h, this]; omega
theorem mL_snoc (op : Int) (m ks : List (Int × Int)) (p : Int × Int) : mL op m (ks ++ [p]) = mK op (mL op m ks) p := by
  unfold mL mK
  split
  · exact addL_snoc m ks p
  · exact offL_snoc m ks p
theorem addK_nodup {m : List (Int × Int)} {p : Int × Int} (h : m.Nodup) : (addK m p).Nodup := by
  unfold addK
  split
  · exact h
  · rename_i e
    exact List.nodup_append.2 ⟨h, by simp, fun a ha b hb => by simp at hb; subst hb; exact fun e2 => e (e2 ▸ ha)⟩
theorem offK_nodup {m : List (Int × Int)} {p : Int × Int} (h : m.Nodup) : (offK m p).Nodup := List.Nodup.sublist List.filter_sublist h
theorem mK_nodup {op : Int} {m : List (Int × Int)} {p : Int × Int} (h : m.Nodup) : (mK op m p).Nodup := by
  unfold mK
  split
  · exact addK_nodup h
  · exact offK_nodup h
theorem mL_nodup {op : Int} (ks : List (Int × Int)) : ∀ m : List (Int × Int), m.Nodup → (mL op m ks).Nodup := by
  induction ks with
  | nil => intro m h; rw [mL_nil]; exact h
  | cons k ks ih =>
    intro m h
    have e : mL op m (k :: ks) = mL op (mK op m k) ks := by
      unfold mL mK addL offL
      split <;> rfl
    rw [e]
    exact ih _ (mK_nodup h)
theorem mL_len (op : Int) (m ks : List (Int × Int)) : (mL op m ks).length ≤ m.length + ks.length := by
  unfold mL
  split
  · exact (addL_len ks m).2
  · have := offL_len ks m; omega
theorem addK_in {m : List (Int × Int)} {p : Int × Int} (h : p ∈ m) : addK m p = m := by unfold addK; rw [if_pos h]
theorem addK_out {m : List (Int × Int)} {p : Int × Int} (h : p ∉ m) : addK m p = m ++ [p] := by unfold addK; rw [if_neg h]
theorem offK_out {m : List (Int × Int)} {p : Int × Int} (h : p ∉ m) : offK m p = m := by
  unfold offK
  rw [List.filter_eq_self]
  intro a ha
  simp only [ne_eq, decide_not, Bool.not_eq_true', decide_eq_false_iff_not]
  exact fun e => h (e ▸ ha)
theorem offK_in {m : List (Int × Int)} {p : Int × Int} (hn : m.Nodup) (t : Nat) (ht : t < m.length) (h : m[t] = p) : m.take t ++ m.drop (t + 1) = offK m p := by
  have e : m = m.take t ++ (p :: m.drop (t + 1)) := by rw [← h, List.getElem_cons_drop, List.take_append_drop]
  have hn2 := hn
  rw [e, List.nodup_append] at hn2
  obtain ⟨_, h2, h3⟩ := hn2
  rw [List.nodup_cons] at h2
  have e1 : offK m p = (m.take t).filter (fun q => decide (q ≠ p)) ++ (m.drop (t + 1)).filter (fun q => decide (q ≠ p)) := by
    unfold offK
    conv => lhs; rw [e]
    rw [List.filter_append, List.filter_cons]
    simp
  rw [e1, List.filter_eq_self.2, List.filter_eq_self.2]
  · intro a ha
    simp only [ne_eq, decide_not, Bool.not_eq_true', decide_eq_false_iff_not]
    exact fun e2 => h2.1 (e2 ▸ ha)
  · intro a ha
    simp only [ne_eq, decide_not, Bool.not_eq_true', decide_eq_false_iff_not]
    exact fun e2 => h3 a ha p List.mem_cons_self e2
theorem offK_len {m : List (Int × Int)} {p : Int × Int} (hn : m.Nodup) (hp : p ∈ m) : (offK m p).length + 1 = m.length := by
  obtain ⟨t, ht, h⟩ := List.mem_iff_getElem.1 hp
  rw [← offK_in hn t ht h, List.length_append, List.length_take, List.length_drop]
  omega
theorem nL_len (op : Int) (m ks : List (Int × Int)) : nL op m ks = if op = 1 then ((mL op m ks).length : Int) - (m.length : Int) else (m.length : Int) - ((mL op m ks).length : Int) := by
  unfold nL mL
  split <;> rfl
theorem nL_same (op : Int) (m ks : List (Int × Int)) (p : Int × Int) (h : mK op (mL op m ks) p = mL op m ks) : nL op m (ks ++ [p]) = nL op m ks := by
  rw [nL_len, nL_len, mL_snoc, h]
theorem nL_more (op : Int) (m ks : List (Int × Int)) (p : Int × Int) (h : op = 1 → (mK op (mL op m ks) p).length = (mL op m ks).length + 1) (h2 : op ≠ 1 → (mK op (mL op m ks) p).length + 1 = (mL op m ks).length) : nL op m (ks ++ [p]) = nL op m ks + 1 := by
  rw [nL_len, nL_len, mL_snoc]
  by_cases e : op = 1
  · rw [if_pos e, if_pos e]
    have := h e
    omega
  · rw [if_neg e, if_neg e]
    have := h2 e
    omega
theorem nL_lo (op : Int) (m ks : List (Int × Int)) : 0 ≤ nL op m ks ∧ nL op m ks ≤ m.length + ks.length := by
  unfold nL
  have h1 := addL_len ks m
  have h2 := offL_len ks m
  split <;> omega
/-- Where a key was found among the first k. -/
def Fnd (m : List (Int × Int)) (p : Int × Int) (k : Nat) (a : Value) : Prop := (a = .int .i64 (-1) ∧ p ∉ m.take k) ∨ ∃ t, t < k ∧ ∃ h : t < m.length, m[t] = p ∧ a = .int .i64 (t : Int)
theorem Fnd.none (m : List (Int × Int)) (p : Int × Int) : Fnd m p 0 (.int .i64 (-1)) := .inl ⟨rfl, by simp⟩
theorem Fnd.hit {m : List (Int × Int)} {p : Int × Int} {k : Nat} (hk : k < m.length) (h : m[k] = p) : Fnd m p (k + 1) (.int .i64 (k : Int)) := .inr ⟨k, by omega, hk, h, rfl⟩
theorem Fnd.miss {m : List (Int × Int)} {p : Int × Int} {k : Nat} {a : Value} (hf : Fnd m p k a) (hk : k < m.length) (h : m[k] ≠ p) : Fnd m p (k + 1) a := by
  rcases hf with ⟨e, hn⟩ | ⟨t, ht, hm, he, e⟩
  · refine .inl ⟨e, ?_⟩
    rw [List.take_succ_eq_append_getElem hk, List.mem_append, List.mem_singleton]
    rintro (h2 | h2)
    · exact hn h2
    · exact h h2.symm
  · exact .inr ⟨t, by omega, hm, he, e⟩
end Go.Proofs.Ytgddehhigamkkaa
