/- Both disks tell the same, call by call: lists and numbers alone. No conditions. -/
import Derived.Test.YtfcbmdmkdjaoaaaMdJ
namespace Go.Proofs.Ytfcbmdmkdjaoaaa
set_option linter.unusedVariables false
set_option linter.unusedSimpArgs false
open Go.RowKit Go.Maps
set_option maxRecDepth 100000
set_option maxHeartbeats 4000000
structure RR (d : DK) (m : Mod) : Prop where
  size : d.size = m.size
  secs : d.secs = m.kept.length
  kl : ∀ x ∈ m.kept, x.length = m.size
  kept : d.kept = m.kept.flatten
  pend : d.pend = m.wait
  off : d.off = m.off
  armed : d.armed = if m.armed = true then m.left.toNat else 0
  left : m.armed = true → 1 ≤ m.left ∧ m.left ≤ 9223372036854775807
  keep : m.armed = true → d.keep = m.keep
  writes : d.writes = m.writes
  wl : ∀ p ∈ m.wait, p.2.length = m.size ∧ p.1 < m.kept.length
structure Inv (secs S i : Nat) (d : DK) (m : Mod) : Prop where
  rr : RR d m
  n : m.kept.length = secs
  s : m.size = S
  w : m.wait.length ≤ i
  wr : m.writes ≤ i
  k : m.keep.length ≤ 300
  sc : 1 ≤ secs ∧ secs ≤ 16384
  sz : 64 ≤ S ∧ S ≤ 1024
  il : i ≤ 1000
theorem layL_cong (S : Nat) (f g : Nat → Bool) : ∀ (L : List PW) (i : Nat) (ks : List (BitVec 8)), (∀ j, i ≤ j → j < i + L.length → f j = g j) → layL S f L i ks = layL S g L i ks
  | [], _, _, _ => rfl
  | p :: l, i, ks, h => by
    rw [layL, layL, h i (Nat.le_refl _) (by simp)]
    exact layL_cong S f g l (i + 1) _ (fun j h1 h2 => h j (by omega) (by simp only [List.length_cons]; omega))
section
variable {secs S i : Nat} {d : DK} {m : Mod}
theorem Inv.lim (h : Inv secs S i d m) : MLim m :=
  ⟨by have := h.n; have := h.sc; omega, by have := h.n; have := h.sc; omega, by have := h.w; have := h.il; omega, by have := h.wr; have := h.il; omega, by have := h.k; omega, fun k hk => (h.rr.wl _ (List.getElem_mem hk)).2, h.rr.left⟩
theorem Inv.pl (h : Inv secs S i d m) : d.pend.length < 100000 ∧ d.writes < 1000000 := by
  rw [h.rr.pend, h.rr.writes]
  have := h.w; have := h.wr; have := h.il
  omega
theorem RR.cutk (h : RR d m) (kp : List Bool) : layL d.size (fun i => kp.getD i false) d.pend 0 d.kept = (cutK kp m.wait m.kept m.wait.length).flatten := by
  have := lay_cut m.size kp m.wait m.kept h.kl h.wl m.wait.length (Nat.le_refl _)
  rw [List.take_length] at this
  rw [h.size, h.pend, h.kept]
  exact this
theorem RR.cutl (h : RR d m) (kp : List Bool) : ∀ x ∈ cutK kp m.wait m.kept m.wait.length, x.length = m.size :=
  cutK_all m.size kp m.wait m.kept h.kl (fun p hp => (h.wl p hp).1) m.wait.length (Nat.le_refl _)
theorem RR.cut (h : RR d m) (kp : List Bool) : RR (d.cut kp) (m.cut kp) :=
  ⟨h.size, by show d.secs = (cutK kp m.wait m.kept _).length; rw [cutK_len]; exact h.secs, h.cutl kp, h.cutk kp, rfl, rfl, rfl, fun e => (by cases e), fun e => (by cases e), h.writes, fun p hp => (by cases hp)⟩
theorem RR.left0 (h : RR d m) (z : Int) (kp : List Bool) : RR (d.cut kp) (({ m with left := z } : Mod).cut kp) :=
  ⟨h.size, by show d.secs = (cutK kp m.wait m.kept _).length; rw [cutK_len]; exact h.secs, h.cutl _, h.cutk _, rfl, rfl, rfl, fun e => (by cases e), fun e => (by cases e), h.writes, fun p hp => (by cases hp)⟩
theorem Inv.more (h : Inv secs S i d m) {j : Nat} (hj : i ≤ j) (hm : j ≤ 1000) : Inv secs S j d m := ⟨h.rr, h.n, h.s, Nat.le_trans h.w hj, Nat.le_trans h.wr hj, h.k, h.sc, h.sz, hm⟩
theorem Inv.cut (h : Inv secs S i d m) (kp : List Bool) : Inv secs S i (d.cut kp) (m.cut kp) :=
  ⟨h.rr.cut kp, by show (cutK kp m.wait m.kept _).length = secs; rw [cutK_len]; exact h.n, h.s, Nat.zero_le _, h.wr, h.k, h.sc, h.sz, h.il⟩
theorem Inv.write (h : Inv secs S i d m) (hi : i < 1000) (s : Int) (bs : List (BitVec 8)) : (wrD d s bs).1 = (wrM m s bs).1 ∧ Inv secs S (i + 1) (wrD d s bs).2 (wrM m s bs).2 := by
  have hr := h.rr
  by_cases ho : m.off = true
  · have e1 : wrM m s bs = (7, m) := by unfold wrM; rw [if_pos ho]
    have e2 : wrD d s bs = (7, d) := by unfold wrD; rw [if_pos (by rw [hr.off]; exact ho)]
    rw [e1, e2]
    exact ⟨rfl, h.more (by omega) (by omega)⟩
  · have ho2 : ¬ d.off = true := by rw [hr.off]; exact ho
    by_cases hb : s < 0 ∨ (m.kept.length : Int) ≤ s ∨ bs.length ≠ m.size
    · have e1 : wrM m s bs = (1, m) := by unfold wrM; rw [if_neg ho, if_pos hb]
      have e2 : wrD d s bs = (1, d) := by
        unfold wrD
        rw [if_neg ho2, if_pos (by
          rw [hr.secs, hr.size]
          rcases hb with hb | hb | hb
          · rw [decide_eq_false (by omega)]; rfl
          · rw [decide_eq_false (p := s < (m.kept.length : Int)) (by omega), Bool.and_false]; rfl
          · rw [decide_eq_false (p := bs.length = m.size) hb, Bool.and_false])]
      rw [e1, e2]
      exact ⟨rfl, h.more (by omega) (by omega)⟩
    · have b1 : 0 ≤ s := by omega
      have b2 : s < (m.kept.length : Int) := by omega
      have b3 : bs.length = m.size := by
        apply Classical.byContradiction
        intro e0
        exact hb (.inr (.inr e0))
      obtain ⟨k, rfl⟩ : ∃ k : Nat, s = (k : Int) := ⟨s.toNat, by omega⟩
      have hb2 : ¬ ((decide ((0 : Int) ≤ (k : Int)) && decide ((k : Int) < (d.secs : Int))) && decide (bs.length = d.size)) = false := by
        rw [hr.secs, hr.size, decide_eq_true b1, decide_eq_true b2, decide_eq_true b3]; decide
      have hwl : ∀ p ∈ m.wait ++ [(k, bs)], p.2.length = m.size ∧ p.1 < m.kept.length := fun p hp => by
        rcases List.mem_append.1 hp with e | e
        · exact hr.wl p e
        · simp only [List.mem_cons, List.not_mem_nil, or_false] at e
          subst e
          exact ⟨b3, by simpa using b2⟩
      have hwn : (m.wait ++ [(k, bs)]).length ≤ i + 1 := by rw [List.length_append]; have := h.w; simp; omega
      by_cases ha : m.armed = true
      · have had := hr.armed
        rw [if_pos ha] at had
        have hlf := hr.left ha
        by_cases hl1 : m.left = 1
        · have e1 : wrM m k bs = (7, ({ m with left := 0 } : Mod).cut m.keep) := by unfold wrM; rw [if_neg ho, if_neg hb, if_pos ha, if_pos hl1]
          have e2 : wrD d k bs = (7, d.cut d.keep) := by unfold wrD; rw [if_neg ho2, if_neg hb2, if_pos (by rw [had, hl1]; rfl)]
          rw [e1, e2, hr.keep ha]
          have q := h.rr.left0 0 m.keep
          refine ⟨rfl, ⟨q, by show (cutK m.keep m.wait m.kept _).length = secs; rw [cutK_len]; exact h.n, h.s, Nat.zero_le _, by show m.writes ≤ i + 1; have := h.wr; omega, h.k, h.sc, h.sz, by omega⟩⟩
        · have e1 : wrM m k bs = (0, ({ m with left := m.left - 1 } : Mod).push k bs) := by unfold wrM; rw [if_neg ho, if_neg hb, if_pos ha, if_neg hl1, Int.toNat_natCast]
          have e2 : wrD d k bs = (0, ({ d with armed := d.armed - 1 } : DK).push k bs) := by unfold wrD; rw [if_neg ho2, if_neg hb2, if_neg (by rw [had]; omega), Int.toNat_natCast]
          rw [e1, e2]
          refine ⟨rfl, ⟨⟨hr.size, hr.secs, hr.kl, hr.kept, by show d.pend ++ [(k, bs)] = m.wait ++ [(k, bs)]; rw [hr.pend], hr.off, ?_, fun _ => ?_, fun _ => hr.keep ha, by show d.writes + 1 = m.writes + 1; rw [hr.writes], hwl⟩, h.n, h.s, hwn, by show m.writes + 1 ≤ i + 1; have := h.wr; omega, h.k, h.sc, h.sz, by omega⟩⟩
          · show d.armed - 1 = if m.armed = true then (m.left - 1).toNat else 0
            rw [if_pos ha, had]; omega
          · show 1 ≤ m.left - 1 ∧ m.left - 1 ≤ 9223372036854775807
            omega
      · have had := hr.armed
        rw [if_neg ha] at had
        have e1 : wrM m k bs = (0, m.push k bs) := by unfold wrM; rw [if_neg ho, if_neg hb, if_neg ha, Int.toNat_natCast]
        have e2 : wrD d k bs = (0, ({ d with armed := d.armed - 1 } : DK).push k bs) := by unfold wrD; rw [if_neg ho2, if_neg hb2, if_neg (by rw [had]; omega), Int.toNat_natCast]
        rw [e1, e2]
        refine ⟨rfl, ⟨⟨hr.size, hr.secs, hr.kl, hr.kept, by show d.pend ++ [(k, bs)] = m.wait ++ [(k, bs)]; rw [hr.pend], hr.off, ?_, fun e => absurd e ha, fun e => absurd e ha, by show d.writes + 1 = m.writes + 1; rw [hr.writes], hwl⟩, h.n, h.s, hwn, by show m.writes + 1 ≤ i + 1; have := h.wr; omega, h.k, h.sc, h.sz, by omega⟩⟩
        show d.armed - 1 = if m.armed = true then m.left.toNat else 0
        rw [if_neg ha, had]
theorem Inv.read (h : Inv secs S i d m) (s : Int) : rdD d s = rdM m s := by
  have hr := h.rr
  unfold rdD rdM
  rw [hr.off]
  by_cases ho : m.off = true
  · rw [if_pos ho, if_pos ho]
  · rw [if_neg ho, if_neg ho, hr.secs]
    by_cases hb : s < 0 ∨ (m.kept.length : Int) ≤ s
    · rw [dif_pos hb, if_pos (by
        rcases hb with hb | hb
        · rw [decide_eq_false (by omega)]; rfl
        · rw [decide_eq_false (p := s < (m.kept.length : Int)) (by omega), Bool.and_false])]
    · rw [dif_neg hb, if_neg (by rw [decide_eq_true (by omega), decide_eq_true (p := s < (m.kept.length : Int)) (by omega)]; decide)]
      rw [cur_last d m.kept (by rw [hr.size]; exact hr.kl) hr.kept s.toNat (by omega), hr.pend]
/-- Sync, as the statement says it of the document's disk. -/
def Mod.sync (m : Mod) : Mod := { m.cut (List.replicate m.wait.length true) with off := false, armed := m.armed }
theorem Inv.sync (h : Inv secs S i d m) (ho : m.off = false) : syD d = (0, d.settled (fun _ => true)) ∧ Inv secs S i (d.settled (fun _ => true)) m.sync := by
  have hr := h.rr
  refine ⟨by unfold syD; rw [if_neg (by rw [hr.off, ho]; decide)], ⟨⟨hr.size, ?_, hr.cutl _, ?_, rfl, by show d.off = false; rw [hr.off, ho], hr.armed, hr.left, hr.keep, hr.writes, fun p hp => (by cases hp)⟩, ?_, h.s, Nat.zero_le _, h.wr, h.k, h.sc, h.sz, h.il⟩⟩
  · show d.secs = (cutK _ m.wait m.kept _).length
    rw [cutK_len]; exact hr.secs
  · show layL d.size (fun _ => true) d.pend 0 d.kept = (cutK (List.replicate m.wait.length true) m.wait m.kept m.wait.length).flatten
    rw [← hr.cutk]
    refine layL_cong _ _ _ _ _ _ (fun j h1 h2 => ?_)
    rw [hr.pend] at h2
    rw [List.getD_eq_getElem?_getD, List.getElem?_replicate, if_pos (by omega)]
    rfl
  · show (cutK _ m.wait m.kept _).length = secs
    rw [cutK_len]; exact h.n
theorem Inv.syncOff (h : Inv secs S i d m) (ho : m.off = true) : syD d = (7, d) := by unfold syD; rw [if_pos (by rw [h.rr.off]; exact ho)]
def Mod.arm (m : Mod) (z : Int) (kp : List Bool) : Mod := { m with armed := true, left := z, keep := kp }
theorem Inv.arm (h : Inv secs S i d m) (z y : Int) (kp : List Bool) (hy : y = max z 1) (hz : z ≤ 9223372036854775807) (hk : kp.length ≤ 300) : Inv secs S i (d.arm (max z 1).toNat kp) (m.arm y kp) := by
  have hr := h.rr
  refine ⟨⟨hr.size, hr.secs, hr.kl, hr.kept, hr.pend, hr.off, by show (max z 1).toNat = y.toNat; rw [hy], fun _ => by show 1 ≤ y ∧ y ≤ _; omega, fun _ => rfl, hr.writes, hr.wl⟩, h.n, h.s, h.w, h.wr, hk, h.sc, h.sz, h.il⟩
theorem Inv.on (h : Inv secs S i d m) : Inv secs S i d.on { m with off := false } := by
  have hr := h.rr
  exact ⟨⟨hr.size, hr.secs, hr.kl, hr.kept, hr.pend, rfl, hr.armed, hr.left, hr.keep, hr.writes, hr.wl⟩, h.n, h.s, h.w, h.wr, h.k, h.sc, h.sz, h.il⟩
/-- At first. -/
theorem Inv.first (secs S : Nat) (h1 : 1 ≤ secs ∧ secs ≤ 16384) (h2 : 64 ≤ S ∧ S ≤ 1024) : Inv secs S 0 (dk0 secs S (List.replicate (secs * S) 0#8)) ⟨S, List.replicate secs (List.replicate S 0#8), [], false, false, 0, [], 0⟩ := by
  refine ⟨⟨rfl, by show secs = _; rw [List.length_replicate], fun x hx => by rw [List.eq_of_mem_replicate hx, List.length_replicate], ?_, rfl, rfl, rfl, fun e => (by cases e), fun e => (by cases e), rfl, fun p hp => (by cases hp)⟩, List.length_replicate, rfl, Nat.le_refl _, Nat.le_refl _, Nat.zero_le _, h1, h2, Nat.zero_le _⟩
  show List.replicate (secs * S) 0#8 = _
  rw [List.flatten_replicate_replicate]
end
-- stores into the document's disk
section
variable {ws W : World} {gm gd : Nat} {E : Nat → Prop} {d : DK} {m : Mod}
theorem Loc.cells (h : Loc ws gm E W gd d m) : ∃ kA kc wA wc eA ec, Bk W gm 33 #[.int .i64 m.size, .slice kA m.kept.length kc, .slice wA m.wait.length wc, .bool m.off, .bool m.armed, .int .i64 m.left, .slice eA m.keep.length ec, .int .i64 m.writes] := by
  obtain ⟨x, hx⟩ := h
  exact ⟨_, _, _, _, _, _, hx.md.blk⟩
theorem Loc.set (h : Loc ws gm E W gd d m) (i : Nat) (v : Value) (m' : Mod) (h1 : m'.size = m.size) (h2 : m'.kept = m.kept) (h3 : m'.wait = m.wait) (h4 : m'.keep = m.keep)
    (hv : ∀ kA kc wA wc eA ec, (#[Value.int .i64 m.size, .slice kA m.kept.length kc, .slice wA m.wait.length wc, .bool m.off, .bool m.armed, .int .i64 m.left, .slice eA m.keep.length ec, .int .i64 m.writes]).setIfInBounds i v = #[.int .i64 m'.size, .slice kA m'.kept.length kc, .slice wA m'.wait.length wc, .bool m'.off, .bool m'.armed, .int .i64 m'.left, .slice eA m'.keep.length ec, .int .i64 m'.writes]) :
    Loc ws gm E (W.setCell ⟨gm, i, none⟩ v) gd d m' ∧ Stay ws E W (W.setCell ⟨gm, i, none⟩ v) := by
  obtain ⟨x, hx⟩ := h
  have hk := Kept.set W gm i v
  have hb := hx.md.blk.set i v
  rw [hv] at hb
  refine hx.modl (x' := x) ⟨hb, by rw [h2]; exact hk.rde hx.md.kept (fun a e _ => hx.md.apart.1 a e), by rw [h3]; exact hx.md.wait.kept hk (fun a e _ => hx.md.apart.2.1 a e), by rw [h4]; exact hk.rde hx.md.keep (fun a e e1 => hx.md.apart.2.2 a e e1), by rw [h4]; exact hx.md.apart⟩ hk (fun k e => .inl ?_)
  rcases e with e | e | e | e
  · exact .inl e
  · rw [h2] at e; exact .inr (.inl e)
  · rw [h3] at e; exact .inr (.inr (.inl e))
  · rw [h4] at e; exact .inr (.inr (.inr e))
theorem Loc.setKeep (h : Loc ws gm E W gd d m) (eA : Option Addr) (kp : List Bool) (n c : Nat) (hn : n = kp.length) (hr : Rd boV W W.heap.size eA kp) (he : ∀ a, eA = some a → kp ≠ [] → a.block < ws.heap.size) :
    Loc ws gm E (W.setCell ⟨gm, 6, none⟩ (.slice eA n c)) gd d { m with keep := kp } ∧ Stay ws E W (W.setCell ⟨gm, 6, none⟩ (.slice eA n c)) := by
  subst hn
  obtain ⟨x, hx⟩ := h
  have hk := Kept.set W gm 6 (.slice eA kp.length c)
  have hb := hx.md.blk.set 6 (.slice eA kp.length c)
  have hne : ∀ a, eA = some a → kp ≠ [] → a.block ≠ gm := fun a e e1 => by have := he a e e1; have := hx.gl; omega
  refine hx.modl (x' := { x with eA := eA, ec := c }) ⟨hb, hk.rde hx.md.kept (fun a e _ => hx.md.apart.1 a e), hx.md.wait.kept hk (fun a e _ => hx.md.apart.2.1 a e), hk.rde hr hne, hx.md.apart.1, hx.md.apart.2.1, hne⟩ hk (fun k e => ?_)
  rcases e with e | e | e | ⟨a, e1, e2, rfl⟩
  · exact .inl (.inl e)
  · exact .inl (.inr (.inl e))
  · exact .inl (.inr (.inr (.inl e)))
  · exact .inr (.inr (he a e1 e2))
end
end Go.Proofs.Ytfcbmdmkdjaoaaa
