/- Both disks, the program's and the document's, side by side in one memory; what each call leaves. Conditions: lengths. -/
import Derived.Test.YtfcbmdmkdjaoaaaMdT
import Derived.Test.YtfcbmdmkdjaoaaaMdH
import Derived.Test.YtfcbmdmkdjaoaaaMdI
namespace Go.Proofs.Ytfcbmdmkdjaoaaa
set_option linter.unusedVariables false
set_option linter.unusedSimpArgs false
open Go.RowKit Go.Maps
set_option maxRecDepth 100000
set_option maxHeartbeats 4000000
/-- The blocks of the document's disk. -/
def Mx (g : Nat) (x : ModX) (m : Mod) (k : Nat) : Prop := k = g ∨ (∃ a, x.kA = some a ∧ m.kept ≠ [] ∧ k = a.block) ∨ (∃ a, x.wA = some a ∧ m.wait ≠ [] ∧ k = a.block) ∨ ∃ a, x.eA = some a ∧ m.keep ≠ [] ∧ k = a.block
structure LocX (ws : World) (gm : Nat) (E : Nat → Prop) (W : World) (gd : Nat) (dk : DK) (m : Mod) (x : ModX) : Prop where
  dx : DiskX ws.heap.size (fun k => Mx gm x m k ∨ E k) W gd dk
  md : MdAt W gm x m
  gl : ws.heap.size ≤ gm
  bl : Below ws.heap.size ws W
  el : ∀ k, E k → k < W.heap.size ∧ k ≠ gm
def Loc (ws : World) (gm : Nat) (E : Nat → Prop) (W : World) (gd : Nat) (dk : DK) (m : Mod) : Prop := ∃ x, LocX ws gm E W gd dk m x
/-- What both sides leave as it was: all below, and the blocks of E. -/
def Stay (ws : World) (E : Nat → Prop) (W W' : World) : Prop := Kept (fun k => ws.heap.size ≤ k ∧ ¬ E k) W W'
section
variable {ws W W' W2 : World} {gm gd : Nat} {E E' : Nat → Prop} {dk dk' : DK} {m m' : Mod} {x x' : ModX}
theorem MdAt.lts (h : MdAt W gm x m) : ∀ k, Mx gm x m k → k < W.heap.size := by
  rintro k (rfl | ⟨a, e, hn, rfl⟩ | ⟨a, e, hn, rfl⟩ | ⟨a, e, hn, rfl⟩)
  · exact h.blk.lt
  · obtain ⟨ad, e1, e2, _⟩ := h.kept 0 (List.length_pos_iff.2 hn)
    rw [e] at e1; injection e1 with e1; rw [e1]; exact e2
  · obtain ⟨ad, e1, e2, _⟩ := h.wait 0 (List.length_pos_iff.2 hn)
    rw [e] at e1; injection e1 with e1; rw [e1]; exact e2
  · obtain ⟨ad, e1, e2, _⟩ := h.keep 0 (List.length_pos_iff.2 hn)
    rw [e] at e1; injection e1 with e1; rw [e1]; exact e2
theorem WRow.kept {S : Nat → Prop} {A : Option Addr} {l : List PW} (h : WRow W W.heap.size A l) (hk : Kept S W W') (hn : ∀ a, A = some a → l ≠ [] → ¬ S a.block) : WRow W' W'.heap.size A l := fun k hk2 => by
  obtain ⟨ad, e, e1, e2, e3⟩ := h k hk2
  have hne := hn ad e (by intro e0; rw [e0] at hk2; exact absurd hk2 (by simp))
  exact ⟨ad, e, Nat.lt_of_lt_of_le e1 hk.size, (hk.cell (by rw [add_block]; exact e1) (by rw [add_block]; exact hne)).trans e2, (hk.cell (p := ⟨(ad.add (k * 2)).block, (ad.add (k * 2)).off + 1, none⟩) (by show (ad.add (k * 2)).block < _; rw [add_block]; exact e1) (by show ¬ S (ad.add (k * 2)).block; rw [add_block]; exact hne)).trans e3⟩
theorem MdAt.keptX {S : Nat → Prop} (h : MdAt W gm x m) (hk : Kept S W W') (hS : ∀ k, Mx gm x m k → ¬ S k) : MdAt W' gm x m :=
  ⟨hk.bk h.blk (hS _ (.inl rfl)), hk.rde h.kept (fun a e e1 => hS _ (.inr (.inl ⟨a, e, e1, rfl⟩))), h.wait.kept hk (fun a e e1 => hS _ (.inr (.inr (.inl ⟨a, e, e1, rfl⟩)))), hk.rde h.keep (fun a e e1 => hS _ (.inr (.inr (.inr ⟨a, e, e1, rfl⟩)))), h.apart⟩
theorem DiskX.to {B : Nat} {X X' : Nat → Prop} (h : DiskX B X W gd dk) (hX : ∀ k, X' k → X k ∨ W.heap.size ≤ k ∨ k < B) : DiskX B X' W gd dk := by
  obtain ⟨y, h1, h2⟩ := h
  refine ⟨y, h1, fun k hk => ⟨(h2 k hk).1, fun e => ?_⟩⟩
  rcases hX k e with e | e | e
  · exact (h2 k hk).2 e
  · have := h1.lts k hk; omega
  · have := (h2 k hk).1; omega
theorem LocX.xl (h : LocX ws gm E W gd dk m x) : ∀ k, (Mx gm x m k ∨ E k) → k < W.heap.size := by
  rintro k (e | e)
  · exact h.md.lts k e
  · exact (h.el k e).1
theorem Loc.below (h : Loc ws gm E W gd dk m) (hb : Below W.heap.size W W') : Loc ws gm E W' gd dk m := by
  obtain ⟨x, h⟩ := h
  exact ⟨x, h.dx.below hb, h.md.keptX (Kept.of_below hb (fun _ => False)) (fun _ _ e => e), h.gl, h.bl.trans (hb.mono h.bl.size), fun k e => ⟨Nat.lt_of_lt_of_le (h.el k e).1 hb.size, (h.el k e).2⟩⟩
theorem Loc.drop (h : Loc ws gm E W gd dk m) : Loc ws gm (fun _ => False) W gd dk m := by
  obtain ⟨x, h⟩ := h
  exact ⟨x, h.dx.to (fun k e => by rcases e with e | e; exact .inl (.inl e); exact e.elim), h.md, h.gl, h.bl, fun k e => e.elim⟩
theorem Loc.new (h : Loc ws gm E W gd dk m) (hb : Below W.heap.size W W') (q : Nat) (h1 : W.heap.size ≤ q) (h2 : q < W'.heap.size) : Loc ws gm (fun k => E k ∨ k = q) W' gd dk m := by
  obtain ⟨x, h⟩ := h
  have hq : gm < q := Nat.lt_of_lt_of_le h.md.blk.lt h1
  refine ⟨x, (h.dx.to (X' := fun k => Mx gm x m k ∨ (E k ∨ k = q)) (fun k e => ?_)).below hb, h.md.keptX (Kept.of_below hb (fun _ => False)) (fun _ _ e => e), h.gl, h.bl.trans (hb.mono h.bl.size), fun k e => ?_⟩
  · rcases e with e | e | e
    · exact .inl (.inl e)
    · exact .inl (.inr e)
    · exact .inr (.inl (by omega))
  · rcases e with e | e
    · exact ⟨Nat.lt_of_lt_of_le (h.el k e).1 hb.size, (h.el k e).2⟩
    · exact ⟨by omega, by omega⟩
/-- A call on the program's disk. -/
theorem LocX.disk (h : LocX ws gm E W gd dk m x) (gd' : Nat) (h1 : DiskX ws.heap.size (fun k => Mx gm x m k ∨ E k) W' gd' dk') (h2 : Kept (fun k => ws.heap.size ≤ k ∧ ¬ (Mx gm x m k ∨ E k)) W W') : Loc ws gm E W' gd' dk' m ∧ Stay ws E W W' :=
  ⟨⟨x, h1, h.md.keptX h2 (fun k e f => f.2 (.inl e)), h.gl, h.bl.trans (h2.below h.bl.size (fun k e => e.1)), fun k e => ⟨Nat.lt_of_lt_of_le (h.el k e).1 h2.size, (h.el k e).2⟩⟩, h2.more (fun k e => ⟨e.1, fun f => e.2 (.inr f)⟩)⟩
/-- A call on the document's disk. -/
theorem LocX.modl (h : LocX ws gm E W gd dk m x) (h1 : MdAt W' gm x' m') (h2 : Kept (fun k => k = gm) W W') (h3 : ∀ k, Mx gm x' m' k → Mx gm x m k ∨ W.heap.size ≤ k ∨ k < ws.heap.size) : Loc ws gm E W' gd dk m' ∧ Stay ws E W W' := by
  have hd : DiskX ws.heap.size (fun k => Mx gm x' m' k ∨ E k) W gd dk := h.dx.to (fun k e => by
    rcases e with e | e
    · rcases h3 k e with f | f
      · exact .inl (.inl f)
      · exact .inr f
    · exact .inl (.inr e))
  refine ⟨⟨x', hd.kept (h2.more (fun k e => .inl (.inl e))), h1, h.gl, h.bl.trans (h2.below h.bl.size (fun k e => by rw [e]; exact h.gl)), fun k e => ⟨Nat.lt_of_lt_of_le (h.el k e).1 h2.size, (h.el k e).2⟩⟩, h2.more (fun k e => ⟨by rw [e]; exact h.gl, fun f => (h.el k f).2 e⟩)⟩
theorem Stay.refl : Stay ws E W W := Kept.refl _ _
theorem Stay.trans (h : Stay ws E W W') (k : Stay ws E W' W2) : Stay ws E W W2 := Kept.trans h k
theorem Stay.of_below (h : Below W.heap.size W W') : Stay ws E W W' := Kept.of_below h _
theorem Stay.bk {g : Nat} {T : TypeId} {cs : Array Value} (h : Stay ws E W W') (hb : Bk W g T cs) (hn : g < ws.heap.size ∨ E g) : Bk W' g T cs := Kept.bk h hb (fun e => by rcases hn with f | f; omega; exact e.2 f)
theorem Stay.rd {α : Type} {f : α → Value} {A : Option Addr} {xs : List α} (h : Stay ws E W W') (hr : Rd f W W.heap.size A xs) (hn : ∀ a, A = some a → xs ≠ [] → a.block < ws.heap.size ∨ E a.block) : Rd f W' W'.heap.size A xs :=
  Kept.rde h hr (fun a e e1 e2 => by rcases hn a e e1 with f | f; omega; exact e2.2 f)
end
/-- Write: what is told, and the disk behind it. -/
def wrD (d : DK) (s : Int) (bs : List (BitVec 8)) : Int × DK :=
  if d.off = true then (7, d) else if ((decide (0 ≤ s) && decide (s < (d.secs : Int))) && decide (bs.length = d.size)) = false then (1, d)
  else if d.armed = 1 then (7, d.cut d.keep) else (0, ({ d with armed := d.armed - 1 } : DK).push s.toNat bs)
def wrM (m : Mod) (s : Int) (bs : List (BitVec 8)) : Int × Mod :=
  if m.off = true then (7, m) else if s < 0 ∨ (m.kept.length : Int) ≤ s ∨ bs.length ≠ m.size then (1, m)
  else if m.armed = true then (if m.left = 1 then (7, ({ m with left := 0 } : Mod).cut m.keep) else (0, ({ m with left := m.left - 1 } : Mod).push s.toNat bs)) else (0, m.push s.toNat bs)
/-- Read. -/
def rdD (d : DK) (s : Int) : List (BitVec 8) × Int := if d.off = true then ([], 7) else if (decide (0 ≤ s) && decide (s < (d.secs : Int))) = false then ([], 1) else (curL d s.toNat, 0)
def rdM (m : Mod) (s : Int) : List (BitVec 8) × Int := if m.off = true then ([], 7) else if h : s < 0 ∨ (m.kept.length : Int) ≤ s then ([], 1) else (lastW s.toNat (m.kept[s.toNat]'(by omega)) m.wait, 0)
/-- Sync. -/
def syD (d : DK) : Int × DK := if d.off = true then (7, d) else (0, d.settled (fun _ => true))
/-- The document's disk within its bounds. -/
structure MLim (m : Mod) : Prop where
  n0 : 0 < m.kept.length
  n1 : m.kept.length ≤ 16384
  w : m.wait.length ≤ 10000
  wr : m.writes ≤ 10000
  k : m.keep.length ≤ 10000
  sec : ∀ k (hk : k < m.wait.length), m.wait[k].1 < m.kept.length
  left : m.armed = true → 1 ≤ m.left ∧ m.left ≤ 9223372036854775807
section
variable {ws W : World} {gm gd : Nat} {E : Nat → Prop} {d : DK} {m : Mod}
theorem lwrite_c (h : Loc ws gm E W gd d m) (s : Int) (A : Option Addr) (bs : List (BitVec 8)) (n c : Nat) (hn : n = bs.length) (hm : n ≤ maxLen) (hr : Rd b8 W W.heap.size A bs) (hA : ∀ a, A = some a → bs ≠ [] → a.block < ws.heap.size ∨ E a.block) (hp1 : d.pend.length < 100000) (hp2 : d.writes < 1000000) :
    Calls Try.prog 10 #[.pointer (some ⟨gd, 0, none⟩), .int .i64 s, .slice A n c] W fun e W' => e = .returned (.int .i64 (wrD d s bs).1) ∧ Loc ws gm E W' gd (wrD d s bs).2 m ∧ Stay ws E W W' := by
  subst hn
  obtain ⟨x, hx⟩ := h
  by_cases ho : d.off = true
  · have e : wrD d s bs = (7, d) := by unfold wrD; rw [if_pos ho]
    rw [e]
    refine (xwrite_off hx.dx s A bs.length c ho).mono ?_
    rintro e w' ⟨rfl, rfl⟩
    exact ⟨rfl, ⟨x, hx⟩, Stay.refl⟩
  · have ho' : d.off = false := by simpa using ho
    by_cases hb : ((decide (0 ≤ s) && decide (s < (d.secs : Int))) && decide (bs.length = d.size)) = false
    · have e : wrD d s bs = (1, d) := by unfold wrD; rw [if_neg ho, if_pos hb]
      rw [e]
      obtain ⟨y, hy, hy2⟩ := hx.dx
      refine (dwrite_bad hy s A bs.length c hm ho' hb).mono ?_
      rintro e w' ⟨rfl, hbe⟩
      exact ⟨rfl, Loc.below ⟨x, hx⟩ hbe, Stay.of_below hbe⟩
    · have hb' : ((decide (0 ≤ s) && decide (s < (d.secs : Int))) && decide (bs.length = d.size)) = true := Bool.not_eq_false _ |>.mp hb
      simp only [Bool.and_eq_true, decide_eq_true_eq] at hb'
      obtain ⟨⟨b1, b2⟩, b3⟩ := hb'
      obtain ⟨k, rfl⟩ : ∃ k : Nat, s = (k : Int) := ⟨s.toNat, by omega⟩
      by_cases ha : d.armed = 1
      · have e : wrD d k bs = (7, d.cut d.keep) := by unfold wrD; rw [if_neg ho, if_neg hb, if_pos ha]
        rw [e]
        refine (xwrite_cut hx.dx hx.xl hx.bl.size k A bs.length c ho' (by omega) b3 ha).mono ?_
        rintro e w' ⟨rfl, r1, r2⟩
        exact ⟨rfl, hx.disk gd r1 r2⟩
      · have e : wrD d k bs = (0, ({ d with armed := d.armed - 1 } : DK).push k bs) := by unfold wrD; rw [if_neg ho, if_neg hb, if_neg ha, Int.toNat_natCast]
        rw [e]
        have hz : bs ≠ [] := by
          intro e0
          obtain ⟨y, hy, _⟩ := hx.dx
          have := hy.sz.1
          rw [e0] at b3; simp at b3; omega
        refine (xwrite_ok hx.dx hx.xl hx.bl.size k A bs c ho' (by omega) b3 ha hr (fun a e => by rcases hA a e hz with f | f; exact .inl f; exact .inr (.inr f)) hp1 hp2).mono ?_
        rintro e w' ⟨rfl, r1, r2⟩
        exact ⟨rfl, hx.disk gd r1 r2⟩
theorem lmwrite_c (h : Loc ws gm E W gd d m) (hl : MLim m) (s : Int) (bs : List (BitVec 8)) (st : ByteArray) (hst : st = strB bs) :
    Calls Try.prog 11 #[.pointer (some ⟨gm, 0, none⟩), .int .i64 s, .string st] W fun e W' => e = .returned (.int .i64 (wrM m s bs).1) ∧ Loc ws gm E W' gd d (wrM m s bs).2 ∧ Stay ws E W W' := by
  subst hst
  obtain ⟨x, hx⟩ := h
  by_cases ho : m.off = true
  · have e : wrM m s bs = (7, m) := by unfold wrM; rw [if_pos ho]
    rw [e]
    refine (mwrite_off hx.md ho s _).mono ?_
    rintro e w' ⟨rfl, rfl⟩
    exact ⟨rfl, ⟨x, hx⟩, Stay.refl⟩
  · have ho' : m.off = false := by simpa using ho
    by_cases hb : s < 0 ∨ (m.kept.length : Int) ≤ s ∨ bs.length ≠ m.size
    · have e : wrM m s bs = (1, m) := by unfold wrM; rw [if_neg ho, if_pos hb]
      rw [e]
      refine (mwrite_bad hx.md ho' s bs hb).mono ?_
      rintro e w' ⟨rfl, rfl⟩
      exact ⟨rfl, ⟨x, hx⟩, Stay.refl⟩
    · have b1 : 0 ≤ s := by omega
      have b2 : s < (m.kept.length : Int) := by omega
      have b3 : bs.length = m.size := by
        apply Classical.byContradiction
        intro e0
        exact hb (.inr (.inr e0))
      obtain ⟨k, rfl⟩ : ∃ k : Nat, s = (k : Int) := ⟨s.toNat, by omega⟩
      have push : ∀ (m2 : Mod) (x2 : ModX), m2.kept = m.kept → m2.keep = m.keep → (∀ k2, Mx gm x2 (m2.push k bs) k2 → x2.kA = x.kA → x2.eA = x.eA → (∀ a, x2.wA = some a → W.heap.size ≤ a.block) → Mx gm x m k2 ∨ W.heap.size ≤ k2 ∨ k2 < ws.heap.size) := by
        rintro m2 x2 e1 e2 k2 (rfl | ⟨a, e, hn, rfl⟩ | ⟨a, e, hn, rfl⟩ | ⟨a, e, hn, rfl⟩) f1 f2 f3
        · exact .inl (.inl rfl)
        · exact .inl (.inr (.inl ⟨a, f1 ▸ e, (by rw [← e1]; exact hn), rfl⟩))
        · exact .inr (.inl (f3 a e))
        · exact .inl (.inr (.inr (.inr ⟨a, f2 ▸ e, (by rw [← e2]; exact hn), rfl⟩)))
      by_cases ha : m.armed = true
      · by_cases hl1 : m.left = 1
        · have e : wrM m k bs = (7, ({ m with left := 0 } : Mod).cut m.keep) := by unfold wrM; rw [if_neg ho, if_neg hb, if_pos ha, if_pos hl1]
          rw [e]
          refine (mwrite_cut hx.md ho' ha hl1 hl.n1 (by have := hl.w; omega) hl.sec (by have := hl.k; omega) k bs (by omega) b3).mono ?_
          rintro e w' ⟨rfl, ⟨q, c, hq, r1⟩, r2⟩
          refine ⟨rfl, hx.modl r1 r2 ?_⟩
          rintro k2 (rfl | ⟨a, e, hn, rfl⟩ | ⟨a, e, hn, rfl⟩ | ⟨a, e, hn, rfl⟩)
          · exact .inl (.inl rfl)
          · injection e with e; rw [← e]; exact .inr (.inl hq)
          · cases e
          · exact .inl (.inr (.inr (.inr ⟨a, e, hn, rfl⟩)))
        · have e : wrM m k bs = (0, ({ m with left := m.left - 1 } : Mod).push k bs) := by unfold wrM; rw [if_neg ho, if_neg hb, if_pos ha, if_neg hl1, Int.toNat_natCast]
          rw [e]
          have hlf := hl.left ha
          have hli : m.left = ((m.left.toNat : Nat) : Int) := by omega
          have e2 : ((m.left.toNat : Nat) : Int) - 1 = m.left - 1 := by omega
          have := mwrite_left hx.md ho' ha m.left.toNat hli (by omega) (by omega) hl.n1 (by have := hl.w; omega) (by have := hl.wr; omega) k bs (by omega) b3
          rw [e2] at this
          refine this.mono ?_
          rintro e w' ⟨rfl, ⟨A5, c5, hq, r1⟩, r2⟩
          exact ⟨rfl, hx.modl r1 r2 (fun k2 e => push _ _ rfl rfl k2 e rfl rfl hq)⟩
      · have ha' : m.armed = false := by simpa using ha
        have e : wrM m k bs = (0, m.push k bs) := by unfold wrM; rw [if_neg ho, if_neg hb, if_neg ha, Int.toNat_natCast]
        rw [e]
        refine (mwrite_push hx.md ho' ha' hl.n1 (by have := hl.w; omega) (by have := hl.wr; omega) k bs (by omega) b3).mono ?_
        rintro e w' ⟨rfl, ⟨A5, c5, hq, r1⟩, r2⟩
        exact ⟨rfl, hx.modl r1 r2 (fun k2 e => push _ _ rfl rfl k2 e rfl rfl hq)⟩
theorem lread_c (h : Loc ws gm E W gd d m) (s : Int) :
    Calls Try.prog 12 #[.pointer (some ⟨gd, 0, none⟩), .int .i64 s] W fun e W' => ∃ A n c, e = .returned (.tuple #[.slice A n c, .int .i64 (rdD d s).2]) ∧ n = (rdD d s).1.length ∧ Rd b8 W' W'.heap.size A (rdD d s).1 ∧ Below W.heap.size W W' := by
  obtain ⟨x, hx⟩ := h
  by_cases ho : d.off = true
  · have e : rdD d s = ([], 7) := by unfold rdD; rw [if_pos ho]
    rw [e]
    refine (xread_off hx.dx s ho).mono ?_
    rintro e w' ⟨rfl, rfl⟩
    exact ⟨none, 0, 0, rfl, rfl, Rd.nil, Below.refl _ _⟩
  · have ho' : d.off = false := by simpa using ho
    by_cases hb : (decide (0 ≤ s) && decide (s < (d.secs : Int))) = false
    · have e : rdD d s = ([], 1) := by unfold rdD; rw [if_neg ho, if_pos hb]
      rw [e]
      obtain ⟨y, hy, hy2⟩ := hx.dx
      refine (dread_bad hy s ho' hb).mono ?_
      rintro e w' ⟨rfl, hbe⟩
      exact ⟨none, 0, 0, rfl, rfl, Rd.nil, hbe⟩
    · have hb' : (decide (0 ≤ s) && decide (s < (d.secs : Int))) = true := Bool.not_eq_false _ |>.mp hb
      simp only [Bool.and_eq_true, decide_eq_true_eq] at hb'
      obtain ⟨k, rfl⟩ : ∃ k : Nat, s = (k : Int) := ⟨s.toNat, by omega⟩
      have e : rdD d k = (curL d k, 0) := by unfold rdD; rw [if_neg ho, if_neg hb, Int.toNat_natCast]
      rw [e]
      refine (xread_ok hx.dx k ho' (by omega)).mono ?_
      rintro e w' ⟨A, c, rfl, hc, ho2, hbe⟩
      exact ⟨A, _, c, rfl, rfl, ho2.rd2, hbe⟩
theorem lmread_c (h : Loc ws gm E W gd d m) (hl : MLim m) (s : Int) :
    Calls Try.prog 13 #[.pointer (some ⟨gm, 0, none⟩), .int .i64 s] W fun e W' => e = .returned (.tuple #[.string (strB (rdM m s).1), .int .i64 (rdM m s).2]) ∧ W' = W := by
  obtain ⟨x, hx⟩ := h
  by_cases ho : m.off = true
  · have e : rdM m s = ([], 7) := by unfold rdM; rw [if_pos ho]
    rw [e]
    exact mread_off hx.md ho s
  · have ho' : m.off = false := by simpa using ho
    by_cases hb : s < 0 ∨ (m.kept.length : Int) ≤ s
    · have e : rdM m s = ([], 1) := by unfold rdM; rw [if_neg ho, dif_pos hb]
      rw [e]
      exact mread_bad hx.md ho' s hb
    · obtain ⟨k, rfl⟩ : ∃ k : Nat, s = (k : Int) := ⟨s.toNat, by omega⟩
      have e : rdM m k = (lastW k (m.kept[k]'(by omega)) m.wait, 0) := by unfold rdM; rw [if_neg ho, dif_neg hb]; rfl
      rw [e]
      exact mread_ok hx.md ho' (by have := hl.w; omega) k (by omega)
theorem lsync_c (h : Loc ws gm E W gd d m) :
    Calls Try.prog 14 #[.pointer (some ⟨gd, 0, none⟩)] W fun e W' => e = .returned (.int .i64 (syD d).1) ∧ Loc ws gm E W' gd (syD d).2 m ∧ Stay ws E W W' := by
  obtain ⟨x, hx⟩ := h
  by_cases ho : d.off = true
  · have e : syD d = (7, d) := by unfold syD; rw [if_pos ho]
    rw [e]
    obtain ⟨y, hy, hy2⟩ := hx.dx
    refine (dsync_off hy ho).mono ?_
    rintro e w' ⟨rfl, rfl⟩
    exact ⟨rfl, ⟨x, hx⟩, Stay.refl⟩
  · have e : syD d = (0, d.settled (fun _ => true)) := by unfold syD; rw [if_neg ho]
    rw [e]
    refine (xsync_ok hx.dx hx.xl hx.bl.size (by simpa using ho)).mono ?_
    rintro e w' ⟨rfl, r1, r2⟩
    exact ⟨rfl, hx.disk gd r1 r2⟩
theorem lcut_c (h : Loc ws gm E W gd d m) (kA : Option Addr) (kp : List Bool) (n kc : Nat) (hn : n = kp.length) (hkr : Rd boV W W.heap.size kA kp) (hkm : ∀ a, kA = some a → kp ≠ [] → a.block < ws.heap.size ∨ E a.block) (hkl : n ≤ 10000) :
    Calls Try.prog 17 #[.pointer (some ⟨gd, 0, none⟩), .slice kA n kc] W fun e W' => e = .returned (.tuple #[]) ∧ Loc ws gm E W' gd (d.cut kp) m ∧ Stay ws E W W' := by
  subst hn
  obtain ⟨x, hx⟩ := h
  refine (xcut_e hx.dx hx.xl hx.bl.size kA kp kc hkr (fun a e e1 => by rcases hkm a e e1 with f | f; exact .inl f; exact .inr (.inr f)) (by omega)).mono ?_
  rintro e w' ⟨rfl, r1, r2⟩
  exact ⟨rfl, hx.disk gd r1 r2⟩
theorem larm_c (h : Loc ws gm E W gd d m) (z : Int) (hz : z ≤ 9223372036854775807) (kA : Option Addr) (kp : List Bool) (n kc : Nat) (hn : n = kp.length) (hkr : Rd boV W W.heap.size kA kp) (hkm : ∀ a, kA = some a → kp ≠ [] → a.block < ws.heap.size ∨ E a.block) (hkl : n ≤ 10000) :
    Calls Try.prog 16 #[.pointer (some ⟨gd, 0, none⟩), .int .i64 z, .slice kA n kc] W fun e W' => e = .returned (.tuple #[]) ∧ Loc ws gm E W' gd (d.arm (max z 1).toNat kp) m ∧ Stay ws E W W' := by
  subst hn
  obtain ⟨x, hx⟩ := h
  refine (xarm_e hx.dx hx.xl hx.bl.size z hz kA kp kc hkr (fun a e e1 => by rcases hkm a e e1 with f | f; exact .inl f; exact .inr (.inr f)) (by omega)).mono ?_
  rintro e w' ⟨rfl, r1, r2⟩
  exact ⟨rfl, hx.disk gd r1 r2⟩
theorem lon_c (h : Loc ws gm E W gd d m) :
    Calls Try.prog 18 #[.pointer (some ⟨gd, 0, none⟩)] W fun e W' => e = .returned (.tuple #[]) ∧ Loc ws gm E W' gd d.on m ∧ Stay ws E W W' := by
  obtain ⟨x, hx⟩ := h
  refine (xon_c hx.dx hx.xl hx.bl.size).mono ?_
  rintro e w' ⟨rfl, r1, r2⟩
  exact ⟨rfl, hx.disk gd r1 r2⟩
theorem lmcut_c (h : Loc ws gm E W gd d m) (hl : MLim m) (kA : Option Addr) (kp : List Bool) (n kc : Nat) (hn : n = kp.length) (hkr : Rd boV W W.heap.size kA kp) (hkl : n ≤ 10000) :
    Calls Try.prog 15 #[.pointer (some ⟨gm, 0, none⟩), .slice kA n kc] W fun e W' => e = .returned (.tuple #[]) ∧ Loc ws gm E W' gd d (m.cut kp) ∧ Stay ws E W W' := by
  subst hn
  obtain ⟨x, hx⟩ := h
  refine (mcut_c hx.md hl.n0 hl.n1 (by have := hl.w; omega) hl.sec kA kp kc hkr (by omega)).mono ?_
  rintro e w' ⟨rfl, ⟨q, c, hq, r1⟩, r2⟩
  refine ⟨rfl, hx.modl r1 r2 ?_⟩
  rintro k2 (rfl | ⟨a, e, hn, rfl⟩ | ⟨a, e, hn, rfl⟩ | ⟨a, e, hn, rfl⟩)
  · exact .inl (.inl rfl)
  · injection e with e; rw [← e]; exact .inr (.inl hq)
  · cases e
  · exact .inl (.inr (.inr (.inr ⟨a, e, hn, rfl⟩)))
/-- Twin, and the elder one cut. -/
theorem ltwin_c (h : Loc ws gm E W gd d m) :
    Calls Try.prog 19 #[.pointer (some ⟨gd, 0, none⟩)] W fun e W' => ∃ g2, e = .returned (.pointer (some ⟨g2, 0, none⟩)) ∧ Below W.heap.size W W' ∧
      Calls Try.prog 17 #[.pointer (some ⟨gd, 0, none⟩), .slice none 0 0] W' fun e W2 => e = .returned (.tuple #[]) ∧ Loc ws gm E W2 g2 d m ∧ Stay ws E W W2 := by
  obtain ⟨x, hx⟩ := h
  obtain ⟨y, h1, h2, h3⟩ := hx.dx.md
  refine (dtwin_c h1).mono ?_
  rintro e w' ⟨g2, y2, rfl, ht, hm, hD, hb⟩
  refine ⟨g2, rfl, hb, ?_⟩
  refine (dcut_e (h1.below hb) none [] 0 Rd.nil (fun a e => by cases e) (by simp)).mono ?_
  rintro e w2 ⟨rfl, h4, hk⟩
  have hlt := fun k (e : Md gd y k) => h1.lts k (.inl e)
  have hxl := hx.xl
  have hnm : ∀ k, Md g2 y2 k → ¬ Md gd y k := fun k e f => by have := hm k e; have := hlt k f; omega
  have hnd : ∀ k, y2.D k → ¬ Md gd y k := fun k e f => by
    rcases hD k e with e | e
    · have n5 := h1.n5 k e
      rcases f with f | f | f | ⟨a, f1, f2⟩
      · exact n5.1 f
      · exact n5.2.1 f
      · exact n5.2.2.1 f
      · exact n5.2.2.2 a f1 f2
    · have := hlt k f; omega
  have hall : DiskX ws.heap.size (fun k => Mx gm x m k ∨ E k) w2 g2 d := by
    refine ⟨y2, ht.kept_ hk (hnm _ (.inl rfl)) (hnm _ (.inr (.inl rfl))) (hnm _ (.inr (.inr (.inl rfl)))) (fun a e => hnm _ (.inr (.inr (.inr ⟨a, e, rfl⟩)))) hnd, fun k e => ?_⟩
    have fresh : W.heap.size ≤ k → ws.heap.size ≤ k ∧ ¬ (Mx gm x m k ∨ E k) := fun e => ⟨Nat.le_trans hx.bl.size e, fun f => by have := hxl k f; omega⟩
    rcases e with e | e
    · exact fresh (hm k e)
    · rcases hD k e with e | e
      · exact h2 k (.inr e)
      · exact fresh e
  have hkk : Kept (fun k => ws.heap.size ≤ k ∧ ¬ (Mx gm x m k ∨ E k)) W w2 := (Kept.of_below hb _).trans (hk.more (fun k e => h2 k (.inl e)))
  exact ⟨rfl, hx.disk g2 hall hkk⟩
end
end Go.Proofs.Ytfcbmdmkdjaoaaa
