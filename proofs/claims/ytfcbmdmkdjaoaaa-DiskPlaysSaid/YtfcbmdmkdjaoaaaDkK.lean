/- What a disk is behind a write. Conditions: lengths. -/
import Derived.Test.YtfcbmdmkdjaoaaaDkJ
import Derived.Test.YtfcbmdmkdjaoaaaRegU
namespace Go.Proofs.Ytfcbmdmkdjaoaaa
set_option linter.unusedVariables false
set_option linter.unusedSimpArgs false
open Go.RowKit Go.Maps
def DK.push (d : DK) (s : Nat) (bs : List (BitVec 8)) : DK := { d with pend := d.pend ++ [(s, bs)], writes := d.writes + 1 }
def DX.push (x : DX) (A5 : Option Addr) (c5 : Nat) (A' : Option Addr) : DX := { x with pA := A5, pc := c5, D := fun k => x.D k ∨ ∃ a, A' = some a ∧ k = a.block }
theorem DiskAt.push {w w4 w5 w6 w7 w8 w9 : World} {g : Nat} {x : DX} {d : DK} (h : DiskAt w4 g x d) (hw : w.heap.size ≤ w4.heap.size) (s : Nat) (bs : List (BitVec 8)) (A' A5 : Option Addr) (c' c5 : Nat) (hs : s < d.secs) (hbl : bs.length = d.size) (hbc : bs.length ≤ c')
    (hnw : ∀ a, A' = some a → w.heap.size ≤ a.block) (hA' : ∀ a, A' = some a → a.block < w4.heap.size ∧ ¬ (Md g x a.block ∨ x.D a.block)) (hrd : Rd b8 w4 w4.heap.size A' bs)
    (ds : List (Option Addr × Nat)) (h1 : ds.length = d.pend.length) (h3 : ∀ q ∈ d.pend.zip ds, Rd b8 w4 w4.heap.size q.2.1 q.1.2 ∧ q.1.2.length ≤ q.2.2 ∧ ∀ a, q.2.1 = some a → x.D a.block)
    (ho : w5.ownsRow 0 70 2 (.slice A5 (d.pend.length + 1) c5) (d.pend.length + 1) ((d.pend.zip ds).flatMap pcells ++ [.int .i64 s, .slice A' bs.length c']))
    (hg : w4.grownBy w5 (Value.slice x.pA d.pend.length x.pc).ownBlock) (hv : (Value.slice A5 (d.pend.length + 1) c5).ownBlock = (Value.slice x.pA d.pend.length x.pc).ownBlock ∨ (Value.slice A5 (d.pend.length + 1) c5).ownBlock = some w4.heap.size)
    (k56 : Kept (fun k => k = g) w5 w6) (k67 : Below w6.heap.size w6 w7) (k78 : Kept (fun k => some x.mb = some k) w7 w8) (k89 : Kept (fun k => k = g) w8 w9)
    (hB : Bk w9 g 64 #[.int .i64 d.size, .slice (some ⟨x.kb, 0, none⟩) d.kept.length x.kc, .slice A5 (d.pend.length + 1) c5, .map (some x.mb), .bool d.off, .int .i64 d.armed, .slice x.eA d.keep.length x.ec, .int .i64 ((d.writes + 1 : Nat) : Int)])
    (hM : MapFn w8 x.mb (d.pend.length + 1) (newF (d.pend ++ [(s, bs)]))) (hl1 : d.pend.length < 100000) (hl2 : d.writes < 1000000) :
    DiskAt w9 g (x.push A5 c5 A') (d.push s bs) ∧ NextX g w x (x.push A5 c5 A') ∧ Kept (Md g x) w4 w9 := by
  have k45 := (Kept.grown hg).more (S' := Md g x) (fun k e => by obtain ⟨a, e1, e2⟩ := own_slice e; exact .inr (.inr (.inr ⟨a, e1, e2⟩)))
  have k59 := (k56.more (S' := fun k => k = g ∨ k = x.mb) (fun k e => .inl e)).trans ((Kept.of_below k67 _).trans ((k78.more (fun k e => by injection e with e; exact .inr e.symm)).trans (k89.more (fun k e => .inl e))))
  have k49 := k45.trans (k59.more (S' := Md g x) (fun k e => by rcases e with e | e; exact .inl e; exact .inr (.inr (.inl e))))
  have hpn : ∀ a, A5 = some a → (∃ b, x.pA = some b ∧ a.block = b.block) ∨ a.block = w4.heap.size := fun a e => by
    have e1 : (Value.slice A5 (d.pend.length + 1) c5).ownBlock = some a.block := by rw [e]; rfl
    rcases hv with h | h
    · rw [e1] at h
      obtain ⟨b, e2, e3⟩ := own_slice h.symm
      exact .inl ⟨b, e2, e3⟩
    · rw [e1] at h
      injection h with h
      exact .inr h
  have hgl := h.blk.lt
  have hkl := h.klt
  have hml := h.map.lt
  have hD4 : ∀ k, (x.push A5 c5 A').D k → k < w4.heap.size := fun k e => by
    rcases e with e | ⟨a, e1, rfl⟩
    · exact h.Dlt k e
    · exact (hA' a e1).1
  have hDM : ∀ k, (x.push A5 c5 A').D k → ¬ Md g x k := fun k e => by
    rcases e with e | ⟨a, e1, rfl⟩
    · obtain ⟨m1, m2, m3, m4⟩ := h.n5 k e
      rintro (f | f | f | ⟨b, f1, f2⟩)
      · exact m1 f
      · exact m2 f
      · exact m3 f
      · exact m4 b f1 f2
    · exact fun f => (hA' a e1).2 (.inl f)
  have hn4 : ∀ a, A5 = some a → a.block ≠ g ∧ a.block ≠ x.kb ∧ a.block ≠ x.mb := fun a e => by
    rcases hpn a e with ⟨b, e1, e2⟩ | e2
    · rw [e2]; exact h.n4 b e1
    · omega
  have hP : PRow w9 (.slice A5 (d.push s bs).pend.length c5) (d.push s bs).pend (x.push A5 c5 A').D := by
    have hz : (d.pend ++ [(s, bs)]).zip (ds ++ [(A', c')]) = d.pend.zip ds ++ [((s, bs), (A', c'))] := by rw [List.zip_append h1.symm]; rfl
    refine ⟨ds ++ [(A', c')], by simp [DK.push, h1], ?_, ?_⟩
    · simp only [DK.push]
      rw [hz, List.flatMap_append, List.length_append]
      refine k59.row ?_ (fun k e => by
        obtain ⟨a, e1, rfl⟩ := own_slice e
        have := hn4 a e1
        rintro (f | f)
        · exact this.1 f
        · exact this.2.2 f)
      simpa [pcells] using ho
    · simp only [DK.push]
      rw [hz]
      intro q hq
      rcases List.mem_append.1 hq with hq | hq
      · obtain ⟨r1, r2, r3⟩ := h3 q hq
        exact ⟨k49.rd r1 (fun a e => hDM _ (.inl (r3 a e))), r2, fun a e => .inl (r3 a e)⟩
      · have : q = ((s, bs), (A', c')) := by simpa using hq
        subst this
        exact ⟨k49.rd hrd (fun a e => hDM _ (.inr ⟨a, e, rfl⟩)), hbc, fun a e => .inr ⟨a, e, rfl⟩⟩
  refine ⟨⟨?_, ?_, hP, ?_, ?_, fun a e => .inl (h.keepD a e), fun k e => Nat.lt_of_lt_of_le (hD4 k e) k49.size, h.n1, h.n2, h.n3, hn4, ?_, h.sz, h.sc, h.kl, ?_, ?_⟩, ?_, k49⟩
  · show Bk w9 g _ #[_, _, .slice A5 (d.pend ++ [(s, bs)]).length c5, _, _, _, _, _]
    rw [List.length_append]; exact hB
  · have hk2 : Kept (fun k => k ≠ x.kb) w4 w9 := ((Kept.grown hg).more (S' := fun k => k ≠ x.kb) (fun k e f => by
      subst f
      obtain ⟨a, e1, e2⟩ := own_slice e
      exact (h.n4 a e1).2.1 e2.symm)).trans (k59.more (fun k e f => by subst f; rcases e with e | e; exact h.n1 e; exact h.n3 e.symm))
    exact hk2.ow h.kept (fun k e => by obtain ⟨a, e1, rfl⟩ := own_slice e; injection e1 with e1; subst e1; exact fun f => f rfl)
  · have := hM.kept k89 h.n2
    show MapFn w9 x.mb (d.pend ++ [(s, bs)]).length (newF (d.pend ++ [(s, bs)]))
    rw [List.length_append]; exact this
  · exact k49.rd h.keep (fun a e => hDM _ (.inl (h.keepD a e)))
  · intro k e
    have hm := hDM k e
    refine ⟨fun f => hm (.inl f), fun f => hm (.inr (.inl f)), fun f => hm (.inr (.inr (.inl f))), fun a e1 f => ?_⟩
    rcases hpn a e1 with ⟨b, e2, e3⟩ | e2
    · exact hm (.inr (.inr (.inr ⟨b, e2, f.trans e3⟩)))
    · have := hD4 k e; omega
  · intro p hp
    rcases List.mem_append.1 hp with hp | hp
    · exact h.pl p hp
    · have : p = (s, bs) := by simpa using hp
      subst this
      exact ⟨hs, hbl⟩
  · refine ⟨?_, ?_, h.lim.2.2⟩
    · show (d.pend ++ [(s, bs)]).length ≤ 100000
      simp; omega
    · show d.writes + 1 ≤ 1000000; omega
  · intro k e
    rcases e with (e | e | e | ⟨a, e1, e2⟩) | e
    · exact .inl (.inl (.inl e))
    · exact .inl (.inl (.inr (.inl e)))
    · exact .inl (.inl (.inr (.inr (.inl e))))
    · rcases hpn a e1 with ⟨b, e3, e4⟩ | e3
      · exact .inl (.inl (.inr (.inr (.inr ⟨b, e3, e2.trans e4⟩))))
      · exact .inr (by omega)
    · rcases e with e | ⟨a, e1, rfl⟩
      · exact .inl (.inr e)
      · exact .inr (hnw a e1)
end Go.Proofs.Ytfcbmdmkdjaoaaa
