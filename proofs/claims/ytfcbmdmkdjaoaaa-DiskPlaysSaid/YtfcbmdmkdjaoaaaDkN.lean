/- A disk besides other blocks: what its methods do. Conditions: lengths. -/
import Derived.Test.YtfcbmdmkdjaoaaaDkM
namespace Go.Proofs.Ytfcbmdmkdjaoaaa
set_option linter.unusedVariables false
set_option linter.unusedSimpArgs false
open Go.RowKit Go.Maps
/-- What a call on a disk leaves. -/
def DkP (B : Nat) (X : Nat → Prop) (w : World) (g : Nat) (d : DK) (v : Value) (e : Ending) (w' : World) : Prop := e = .returned v ∧ DiskX B X w' g d ∧ Kept (fun k => B ≤ k ∧ ¬ X k) w w'
section
variable {B : Nat} {X : Nat → Prop} {w w' : World} {g : Nat} {d : DK}
theorem DkP.bel {v : Value} {e : Ending} (h : DkP B X w g d v e w') (hB : B ≤ w.heap.size) : Below B w w' := h.2.2.below hB (fun _ e => e.1)
theorem DiskX.md (h : DiskX B X w g d) : ∃ x, DiskAt w g x d ∧ (∀ k, (Md g x k ∨ x.D k) → B ≤ k ∧ ¬ X k) ∧ ∀ a : Addr, (a.block < B ∨ X a.block) → ¬ Md g x a.block := by
  obtain ⟨x, h1, h2⟩ := h
  refine ⟨x, h1, h2, fun a ha hm => ?_⟩
  have := h2 _ (.inl hm)
  rcases ha with e | e
  · omega
  · exact this.2 e
theorem xwrite_ok (h : DiskX B X w g d) (hX : ∀ k, X k → k < w.heap.size) (hB : B ≤ w.heap.size) (s : Nat) (A : Option Addr) (bs : List (BitVec 8)) (c : Nat) (ho : d.off = false) (hs : s < d.secs) (hn : bs.length = d.size) (ha : d.armed ≠ 1) (hr : Rd b8 w w.heap.size A bs) (hA : ∀ a, A = some a → a.block < B ∨ X a.block) (hp1 : d.pend.length < 100000) (hp2 : d.writes < 1000000) :
    Calls Try.prog 10 #[.pointer (some ⟨g, 0, none⟩), .int .i64 s, .slice A bs.length c] w (DkP B X w g (({ d with armed := d.armed - 1 } : DK).push s bs) (.int .i64 0)) := by
  obtain ⟨x, h1, h2, h3⟩ := h.md
  refine (dwrite_ok h1 s A bs c ho hs hn ha hr (fun a e => h3 a (hA a e)) hp1 hp2).mono ?_
  rintro e w' ⟨rfl, x', r1, r2, r3⟩
  exact ⟨rfl, DiskX.next h1 h2 hX hB r1 r2 r3⟩
theorem xwrite_cut (h : DiskX B X w g d) (hX : ∀ k, X k → k < w.heap.size) (hB : B ≤ w.heap.size) (s : Nat) (A : Option Addr) (n c : Nat) (ho : d.off = false) (hs : s < d.secs) (hn : n = d.size) (ha : d.armed = 1) :
    Calls Try.prog 10 #[.pointer (some ⟨g, 0, none⟩), .int .i64 s, .slice A n c] w (DkP B X w g (d.cut d.keep) (.int .i64 7)) := by
  obtain ⟨x, h1, h2, h3⟩ := h.md
  refine (dwrite_cut h1 s A n c ho hs hn ha).mono ?_
  rintro e w' ⟨rfl, r1, r3⟩
  refine ⟨rfl, DiskX.next h1 h2 hX hB r1 (fun k e => ?_) r3⟩
  rcases e with (e | e | e | ⟨a, e, _⟩) | e
  · exact .inl (.inl (.inl e))
  · exact .inl (.inl (.inr (.inl e)))
  · exact .inl (.inl (.inr (.inr (.inl e))))
  · cases e
  · exact .inl (.inr e)
theorem xwrite_off (h : DiskX B X w g d) (s : Int) (A : Option Addr) (n c : Nat) (ho : d.off = true) : Calls Try.prog 10 #[.pointer (some ⟨g, 0, none⟩), .int .i64 s, .slice A n c] w fun e w' => e = .returned (.int .i64 7) ∧ w' = w := by
  obtain ⟨x, h1, h2⟩ := h
  exact dwrite_off h1 s A n c ho
theorem xread_ok (h : DiskX B X w g d) (s : Nat) (ho : d.off = false) (hs : s < d.secs) : Calls Try.prog 12 #[.pointer (some ⟨g, 0, none⟩), .int .i64 s] w (NewQ (curL d s) w) := by
  obtain ⟨x, h1, h2⟩ := h
  exact dread_ok h1 s ho hs
theorem xread_off (h : DiskX B X w g d) (s : Int) (ho : d.off = true) : Calls Try.prog 12 #[.pointer (some ⟨g, 0, none⟩), .int .i64 s] w fun e w' => e = .returned (.tuple #[.slice none 0 0, .int .i64 7]) ∧ w' = w := by
  obtain ⟨x, h1, h2⟩ := h
  exact dread_off h1 s ho
theorem xsync_ok (h : DiskX B X w g d) (hX : ∀ k, X k → k < w.heap.size) (hB : B ≤ w.heap.size) (ho : d.off = false) : Calls Try.prog 14 #[.pointer (some ⟨g, 0, none⟩)] w (DkP B X w g (d.settled (fun _ => true)) (.int .i64 0)) := by
  obtain ⟨x, h1, h2, h3⟩ := h.md
  refine (dsync_ok h1 ho).mono ?_
  rintro e w' ⟨rfl, r1, r3⟩
  refine ⟨rfl, DiskX.next h1 h2 hX hB r1 (fun k e => ?_) r3⟩
  rcases e with (e | e | e | ⟨a, e, _⟩) | e
  · exact .inl (.inl (.inl e))
  · exact .inl (.inl (.inr (.inl e)))
  · exact .inl (.inl (.inr (.inr (.inl e))))
  · cases e
  · exact .inl (.inr e)
theorem xcut_e (h : DiskX B X w g d) (hX : ∀ k, X k → k < w.heap.size) (hB : B ≤ w.heap.size) (kA : Option Addr) (kp : List Bool) (kc : Nat) (hkr : Rd boV w w.heap.size kA kp) (hkm : ∀ a, kA = some a → kp ≠ [] → a.block < B ∨ X a.block) (hkl : kp.length ≤ 100000) :
    Calls Try.prog 17 #[.pointer (some ⟨g, 0, none⟩), .slice kA kp.length kc] w (DkP B X w g (d.cut kp) (.tuple #[])) := by
  obtain ⟨x, h1, h2, h3⟩ := h.md
  refine (dcut_e h1 kA kp kc hkr (fun a e e1 => h3 a (hkm a e e1)) hkl).mono ?_
  rintro e w' ⟨rfl, r1, r3⟩
  refine ⟨rfl, DiskX.next h1 h2 hX hB r1 (fun k e => ?_) r3⟩
  rcases e with (e | e | e | ⟨a, e, _⟩) | e
  · exact .inl (.inl (.inl e))
  · exact .inl (.inl (.inr (.inl e)))
  · exact .inl (.inl (.inr (.inr (.inl e))))
  · cases e
  · exact .inl (.inr e)
theorem xcut_c (h : DiskX B X w g d) (hX : ∀ k, X k → k < w.heap.size) (hB : B ≤ w.heap.size) (kA : Option Addr) (kp : List Bool) (kc : Nat) (hkr : Rd boV w w.heap.size kA kp) (hkm : ∀ a, kA = some a → a.block < B ∨ X a.block) (hkl : kp.length ≤ 100000) :
    Calls Try.prog 17 #[.pointer (some ⟨g, 0, none⟩), .slice kA kp.length kc] w (DkP B X w g (d.cut kp) (.tuple #[])) :=
  xcut_e h hX hB kA kp kc hkr (fun a e _ => hkm a e) hkl
theorem xarm_e (h : DiskX B X w g d) (hX : ∀ k, X k → k < w.heap.size) (hB : B ≤ w.heap.size) (n : Int) (hn : n ≤ 9223372036854775807) (kA : Option Addr) (kp : List Bool) (kc : Nat) (hkr : Rd boV w w.heap.size kA kp) (hkm : ∀ a, kA = some a → kp ≠ [] → a.block < B ∨ X a.block) (hkl : kp.length ≤ 100000) :
    Calls Try.prog 16 #[.pointer (some ⟨g, 0, none⟩), .int .i64 n, .slice kA kp.length kc] w (DkP B X w g (d.arm (max n 1).toNat kp) (.tuple #[])) := by
  obtain ⟨x, h1, h2, h3⟩ := h.md
  refine (darm_e h1 n hn kA kp kc hkr (fun a e e1 => h3 a (hkm a e e1)) hkl).mono ?_
  rintro e w' ⟨rfl, x', r1, r2, r3⟩
  exact ⟨rfl, DiskX.next h1 h2 hX hB r1 r2 r3⟩
theorem xarm_c (h : DiskX B X w g d) (hX : ∀ k, X k → k < w.heap.size) (hB : B ≤ w.heap.size) (n : Int) (hn : n ≤ 9223372036854775807) (kA : Option Addr) (kp : List Bool) (kc : Nat) (hkr : Rd boV w w.heap.size kA kp) (hkm : ∀ a, kA = some a → a.block < B ∨ X a.block) (hkl : kp.length ≤ 100000) :
    Calls Try.prog 16 #[.pointer (some ⟨g, 0, none⟩), .int .i64 n, .slice kA kp.length kc] w (DkP B X w g (d.arm (max n 1).toNat kp) (.tuple #[])) :=
  xarm_e h hX hB n hn kA kp kc hkr (fun a e _ => hkm a e) hkl
theorem xon_c (h : DiskX B X w g d) (hX : ∀ k, X k → k < w.heap.size) (hB : B ≤ w.heap.size) : Calls Try.prog 18 #[.pointer (some ⟨g, 0, none⟩)] w (DkP B X w g d.on (.tuple #[])) := by
  obtain ⟨x, h1, h2, h3⟩ := h.md
  refine (don_c h1).mono ?_
  rintro e w' ⟨rfl, r1, r3⟩
  exact ⟨rfl, DiskX.next h1 h2 hX hB r1 (NextX.refl _ _ _) r3⟩
theorem xoff_c (h : DiskX B X w g d) : Calls Try.prog 20 #[.pointer (some ⟨g, 0, none⟩)] w fun e w' => e = .returned (.bool d.off) ∧ w' = w := by
  obtain ⟨x, h1, h2⟩ := h
  exact doff_c h1
theorem xpending_c (h : DiskX B X w g d) : Calls Try.prog 21 #[.pointer (some ⟨g, 0, none⟩)] w fun e w' => e = .returned (.int .i64 d.pend.length) ∧ w' = w := by
  obtain ⟨x, h1, h2⟩ := h
  exact dpending_c h1
theorem xwrites_c (h : DiskX B X w g d) : Calls Try.prog 22 #[.pointer (some ⟨g, 0, none⟩)] w fun e w' => e = .returned (.int .i64 d.writes) ∧ w' = w := by
  obtain ⟨x, h1, h2⟩ := h
  exact dwrites_c h1
theorem xbytes_c (h : DiskX B X w g d) : Calls Try.prog 24 #[.pointer (some ⟨g, 0, none⟩)] w (NewP b8 5 d.kept w) := by
  obtain ⟨x, h1, h2⟩ := h
  exact dbytes_c h1
theorem xshape_c (h : DiskX B X w g d) : Calls Try.prog 23 #[.pointer (some ⟨g, 0, none⟩)] w fun e w' => e = .returned (.tuple #[.int .i64 d.secs, .int .i64 d.size]) ∧ Below w.heap.size w w' := by
  obtain ⟨x, h1, h2⟩ := h
  exact dshape_c h1
theorem DiskX.curLen (h : DiskX B X w g d) {s : Nat} (hs : s < d.secs) : (curL d s).length = d.size := by
  obtain ⟨x, h1, h2⟩ := h
  unfold curL
  split
  · exact secL_len h1 hs
  · rename_i hne
    rcases newF_at d.pend s with h | ⟨j, hj, hf, hjs⟩
    · exact absurd h hne
    · rw [hf, show ((j : Int) + 1 - 1).toNat = j by omega, List.getD_eq_getElem?_getD, List.getElem?_eq_getElem hj]
      exact (h1.pl _ (List.getElem_mem hj)).2
end
end Go.Proofs.Ytfcbmdmkdjaoaaa
