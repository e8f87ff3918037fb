/- A table beside a row of texts: what TablePlays keeps. Pure. No conditions. -/
import Derived.Test.YtdfhdgdhhgabbaaNmY
namespace Go.Proofs.Ytdfhdgdhhgabbaa
set_option linter.unusedVariables false
set_option linter.unusedSimpArgs false
open Go.RowKit Go.Maps Go.Sort
abbrev Rw := List (Nm × Int)
def kR (p : Nm × Int) : Nm × Int := (padNm p.1, p.2)
def sR (p : Nm × Int) : ByteArray × Int := (strB p.1, p.2)
structure TpI (m : Tb) (row : Rw) : Prop where
  perm : m.Perm (row.map kR)
  good : ∀ p ∈ row, goodN p.1 ∧ 1 ≤ p.2 ∧ p.2 ≤ 9223372036854775807
  nodup : (row.map Prod.fst).Nodup
  len : row.length ≤ 64
theorem TpI.nil : TpI [] [] := ⟨List.Perm.refl _, fun p h => (by cases h), List.nodup_nil, (by simp)⟩
theorem pad_inj {a b : Nm} (ha : goodN a) (hb : goodN b) (h : padNm a = padNm b) : a = b := by rw [← good_cut ha, h, good_cut hb]
theorem vOf_some : ∀ {m : Tb} {k : Nm} {z : Int}, (m.map Prod.fst).Nodup → (k, z) ∈ m → vOf m k = some z
  | [], _, _, _, h => by cases h
  | p :: m, k, z, hn, h => by
    unfold vOf
    rw [List.map_cons, List.nodup_cons] at hn
    rcases List.mem_cons.1 h with rfl | h
    · rw [if_pos rfl]
    · rw [if_neg (fun e => hn.1 (by rw [e]; exact List.mem_map.2 ⟨_, h, rfl⟩)), vOf_some hn.2 h]
theorem vOf_no {m : Tb} {k : Nm} (h : k ∉ m.map Prod.fst) : vOf m k = none := by
  cases hv : vOf m k with
  | none => rfl
  | some z => exact absurd ((vOf_mem m).1 (by rw [hv]; rfl)) h
theorem del_out {m : Tb} {k : Nm} (h : k ∉ m.map Prod.fst) : delN m k = m := by
  unfold delN
  rw [List.filter_eq_self]
  intro p hp
  simp only [decide_eq_true_eq]
  exact fun e => h (List.mem_map.2 ⟨p, hp, e⟩)
theorem set_perm (k : Nm) (v : Int) : ∀ m : Tb, (m.map Prod.fst).Nodup → (setN m k v).Perm (delN m k ++ [(k, v)])
  | [], _ => List.Perm.refl _
  | p :: m, hn => by
    rw [List.map_cons, List.nodup_cons] at hn
    unfold setN
    by_cases e : p.1 = k
    · rw [if_pos e]
      have h1 : delN (p :: m) k = m := by
        have h2 : delN (p :: m) k = delN m k := by unfold delN; rw [List.filter_cons, if_neg (by simpa using e)]
        rw [h2, del_out (by rw [← e]; exact hn.1)]
      rw [h1]
      exact (List.perm_append_singleton _ _).symm
    · rw [if_neg e]
      have h2 : delN (p :: m) k = p :: delN m k := by unfold delN; rw [List.filter_cons, if_pos (by simpa using e)]
      rw [h2, List.cons_append]
      exact (set_perm k v m hn.2).cons p
theorem cut_out {s : Nm} : ∀ {row : Rw} {a : Nat}, (row.map Prod.fst).Nodup → (h : a < row.length) → (row[a]).1 = s → row.filter (fun p => decide (p.1 ≠ s)) = row.take a ++ row.drop (a + 1)
  | [], _, _, h, _ => absurd h (by simp)
  | p :: r, 0, hn, _, e => by
    have e : p.1 = s := e
    rw [List.map_cons, List.nodup_cons] at hn
    rw [List.filter_cons, if_neg (by simpa using e)]
    show _ = r
    rw [List.filter_eq_self]
    intro q hq
    simp only [decide_eq_true_eq]
    exact fun eq => hn.1 (by rw [e, ← eq]; exact List.mem_map.2 ⟨q, hq, rfl⟩)
  | p :: r, a + 1, hn, h, e => by
    have e : (r[a]'(by simpa using h)).1 = s := e
    rw [List.map_cons, List.nodup_cons] at hn
    have hp : p.1 ≠ s := fun eq => hn.1 (by rw [eq, ← e]; exact List.mem_map.2 ⟨_, List.getElem_mem _, rfl⟩)
    rw [List.filter_cons, if_pos (by simpa using hp), cut_out hn.2 (by simpa using h) e]
    rfl
theorem keys_kR (row : Rw) : (row.map kR).map Prod.fst = row.map fun p => padNm p.1 := by rw [List.map_map]; rfl
section
variable {m : Tb} {row : Rw}
theorem TpI.mlen (h : TpI m row) : m.length = row.length := by have := h.perm.length_eq; simpa using this
theorem TpI.keys (h : TpI m row) : (m.map Prod.fst).Nodup := by
  have h1 := h.perm.map Prod.fst
  rw [keys_kR] at h1
  refine h1.nodup_iff.2 ?_
  have hn := h.nodup
  have hg := h.good
  clear h1 h
  induction row with
  | nil => exact List.nodup_nil
  | cons p r ih =>
    rw [List.map_cons, List.nodup_cons] at hn ⊢
    refine ⟨fun hm => ?_, ih hn.2 (fun q hq => hg q (List.mem_cons_of_mem _ hq))⟩
    obtain ⟨q, hq, e⟩ := List.mem_map.1 hm
    have := pad_inj (hg q (List.mem_cons_of_mem _ hq)).1 (hg p List.mem_cons_self).1 e
    exact hn.1 (by rw [← this]; exact List.mem_map.2 ⟨q, hq, rfl⟩)
theorem TpI.look_in (h : TpI m row) {p : Nm × Int} (hp : p ∈ row) : vOf m (padNm p.1) = some p.2 :=
  vOf_some h.keys (h.perm.mem_iff.2 (List.mem_map.2 ⟨p, hp, rfl⟩))
theorem TpI.mem_key (h : TpI m row) {k : Nm} : k ∈ m.map Prod.fst ↔ ∃ p ∈ row, padNm p.1 = k := by
  rw [(h.perm.map Prod.fst).mem_iff, keys_kR, List.mem_map]
theorem TpI.look_out (h : TpI m row) {s : Nm} (hs : goodN s) (ho : s ∉ row.map Prod.fst) : padNm s ∉ m.map Prod.fst := fun hk => by
  obtain ⟨p, hp, e⟩ := h.mem_key.1 hk
  exact ho (by rw [← pad_inj (h.good p hp).1 hs e]; exact List.mem_map.2 ⟨p, hp, rfl⟩)
theorem TpI.look_bad (h : TpI m row) {k : Nm} (hk : ¬ ∃ s, goodN s ∧ k = padNm s) : k ∉ m.map Prod.fst := fun hm => by
  obtain ⟨p, hp, e⟩ := h.mem_key.1 hm
  exact hk ⟨p.1, (h.good p hp).1, e.symm⟩
theorem TpI.wide (h : TpI m row) : ∀ p ∈ m, nW p.1 := fun p hp => by
  obtain ⟨q, hq, e⟩ := h.mem_key.1 (List.mem_map.2 ⟨p, hp, rfl⟩)
  rw [← e]
  exact padNm_w (h.good q hq).1.2.1
theorem filt_kR (hg : ∀ p ∈ row, goodN p.1) {s : Nm} (hs : goodN s) : (row.map kR).filter (fun p => decide (p.1 ≠ padNm s)) = (row.filter fun p => decide (p.1 ≠ s)).map kR := by
  induction row with
  | nil => rfl
  | cons p r ih =>
    have ih := ih (fun q hq => hg q (List.mem_cons_of_mem _ hq))
    rw [List.map_cons, List.filter_cons, List.filter_cons]
    by_cases e : p.1 = s
    · rw [if_neg (by simp [kR, e]), if_neg (by simpa using e), ih]
    · rw [if_pos (by simp only [decide_eq_true_eq]; exact fun eq => e (pad_inj (hg p List.mem_cons_self) hs eq)), if_pos (by simpa using e), List.map_cons, ih]
theorem TpI.drop (h : TpI m row) {s : Nm} (hs : goodN s) : TpI (delN m (padNm s)) (row.filter fun p => decide (p.1 ≠ s)) := by
  refine ⟨?_, fun p hp => h.good p (List.mem_filter.1 hp).1, (List.Sublist.map _ List.filter_sublist).nodup h.nodup, Nat.le_trans (List.length_filter_le _ _) h.len⟩
  rw [← filt_kR (fun p hp => (h.good p hp).1) hs]
  exact h.perm.filter _
theorem TpI.put (h : TpI m row) {s : Nm} (hs : goodN s) {z : Int} (h1 : 1 ≤ z) (h2 : z ≤ 9223372036854775807) (hl : (row.filter fun p => decide (p.1 ≠ s)).length < 64) : TpI (setN m (padNm s) z) ((row.filter fun p => decide (p.1 ≠ s)) ++ [(s, z)]) := by
  have hd := h.drop hs
  refine ⟨?_, fun p hp => ?_, ?_, by rw [List.length_append]; exact hl⟩
  · rw [List.map_append]
    exact (set_perm _ _ m h.keys).trans (hd.perm.append_right _)
  · rcases List.mem_append.1 hp with hp | hp
    · exact hd.good p hp
    · have : p = (s, z) := by simpa using hp
      rw [this]
      exact ⟨hs, h1, h2⟩
  · rw [List.map_append, List.nodup_append]
    refine ⟨hd.nodup, by simp, fun x hx y hy => ?_⟩
    have e : y = s := by simpa using hy
    obtain ⟨p, hp, e2⟩ := List.mem_map.1 hx
    have hq := (List.mem_filter.1 hp).2
    simp only [decide_eq_true_eq] at hq
    rw [e, ← e2]
    exact hq
def srt (o : Rw) : Prop := o.Pairwise fun a b => ¬ cmpB b.1 a.1 < 0
theorem cmp_good {a b : Nm} (ha : goodN a) (hb : goodN b) : cmpB (padNm a) (padNm b) = cmpB a b := cmpB_pad ha.2.2 hb.2.2 (by have := ha.2.1; have := hb.2.1; omega)
theorem TpI.roots (h : TpI m row) {ss : List NW} (hp : (ss.map Subtype.val).Perm (m.map Prod.fst)) {o : Rw} (ho : o.Perm row) (hs : srt o) : rootsN m ss = o.map sR := by
  have hgo : ∀ p ∈ o, goodN p.1 := fun p hq => (h.good p (ho.mem_iff.1 hq)).1
  have e1 : (sortW ss).map Subtype.val = o.map fun p => padNm p.1 := by
    refine List.Perm.eq_of_pairwise (le := fun a b => ¬ cmpB b a < 0) (fun a b _ _ h1 h2 => ?_) ?_ ?_ ?_
    · have := cmpB_neg a b
      exact cmpB_zero (by omega)
    · rw [List.pairwise_map]
      exact (sortW_sorted ss).imp fun h => (wLe_iff _ _).1 h
    · rw [List.pairwise_map]
      refine List.Pairwise.imp_of_mem (fun ha hb hab => ?_) hs
      rw [cmp_good (hgo _ hb) (hgo _ ha)]
      exact hab
    · have a1 : ((sortW ss).map Subtype.val).Perm (ss.map Subtype.val) := sortW_mem.map _
      have a2 := h.perm.map Prod.fst
      rw [keys_kR] at a2
      exact a1.trans (hp.trans (a2.trans (ho.symm.map _)))
  have e2 : rootsN m ss = ((sortW ss).map Subtype.val).map fun k => (strB (cutN k), (vOf m k).getD 0) := by unfold rootsN; rw [List.map_map]; rfl
  rw [e2, e1, List.map_map]
  apply List.map_congr_left
  intro p hpo
  show (strB (cutN (padNm p.1)), (vOf m (padNm p.1)).getD 0) = (strB p.1, p.2)
  rw [good_cut (hgo p hpo), h.look_in (ho.mem_iff.1 hpo)]
  rfl
end
end Go.Proofs.Ytdfhdgdhhgabbaa
